import PyProof.Rows.All
import Wide.All
import OpenK.AllK
import Wide.FinOn
import Lean
import PyProof.EqAt
import PyProof.EqKinds
import PyProof.TupleCall
import PyProof.P3Eq
import PyProof.NeData
import PyProof.FitsBits
import PyProof.ZipIter
import PyProof.TupleIter
import KE.KRevIter
import PyProof.TupleOfGen
import PyProof.ListRange
import KE.KIsAll
import PyProof.ExcArgsOwn
import OpenK.KDescr
import PyProof.StationsW
import PyProof.ExcBaseAll.ValueError
import OpenK.KOwn
import PyProof.RulesAs
import PyProof.RulesDel
import PyProof.Rows.SortWalk
import PyProof.CompUse
import KE.KDictSum
import PyProof.WalkInts
import KE.KSortTup
import PyProof.Rows.TupDisplay
import KE.KIntText
import PyProof.JoinWalk
import PyProof.ExcInit
import PyProof.ExcClass2
import PySem.Challenge.RW_pebbletoll_k26_whole_just_so_many
set_option Elab.async false
set_option linter.all false
set_option maxRecDepth 100000
namespace Hd
open PySem
def top (i:Nat):Stmt:=PySem.Challenge.pw_pebbletoll_k26_whole_just_so_many.main.body.getD i (.Pass ⟨0,0,0,0⟩)
def inC (s:Stmt) (j:Nat):Stmt:=match s with
 | .ClassDef _ _ _ b _ _ _ _ _ _ _=>b.getD j (.Pass ⟨0,0,0,0⟩)
 | _=>.Pass ⟨0,0,0,0⟩
def kA (s:Stmt):Arguments:=match s with
 | .FunctionDef _ a _ _ _ _ _ _ _ _=>a
 | _=>{ posonlyargs:=[],args:=[],vararg:=none,kwonlyargs:=[],kw_defaults:=[],kwarg:=none,defaults:=[] }
def kB (s:Stmt):List Stmt:=match s with
 | .FunctionDef _ _ b _ _ _ _ _ _ _=>b
 | _=>[]
def kS (s:Stmt):Scope:=match s with
 | .FunctionDef _ _ _ _ _ _ sc _ _ _=>sc
 | _=>{ kind:=.function,names:=[],isGenerator:=false,isCoroutine:=false }
open PySem.W PySem.Calls PyProof.Rows
def en (P:Params) (s:Str) (t:Tok) (v:Value):DictEntry:=.mk (PyData.keyHash P s) (.str s t) v
def cO (a b:Str) (t1 t2 t3:Tok) (i1 i2 i3 i4 i5:Int) (r1:Value) (b1:Bool) (i6:Int) (r2 v1 v2 v3 r3:Value) (i7 i8:Int) (t4:Tok):Obj:=.mk (.type "code") none (.fields #[.str a t1,.str b t2,.str "/claim/cut.py" t3,.int i1 0,.int i2 0,.int i3 0,.int i4 0,.int i5 0,r1,.bool b1,.int i6 0,r2,v1,v2,v3,r3,.int i7 0,.int i8 0,.str "/claim/cut.py" t4]) #[]
def fR (a b:Str) (s:Stmt):Obj:=.mk .none none (.func (.mk a b (kA s) (.stmts (kB s)) (kS s) 0 [] .none .none .none .none none .none .none 0)) #[]
def fO (a b:Str) (s:Stmt) (pm cd:Value):Obj:=.mk (.type "function") none (.func (PySem.W.fnOf a b (kA s) (kB s) (kS s) .none .none .none pm none cd .none)) #[]
def tO (xs:Array Value):Obj:=.mk (.type "tuple") none (.seq xs 0) #[]
def x0:Obj:=(tO #[])
def x1:Obj:=(.mk .none none (.fields #[]) #[])
def x2:Obj:=(cO "<module>" "<module>" 182 183 184 1 0 0 0 0 (.ref 11) false 181 (.ref 12) .none .none .none .none 185 1 186)
def x3:Obj:=(.mk (.type "frame") none .plain #[(some (.ref 13)),(some (.ref 3)),(some (.ref 3)),none,(some (.str "__main__" 164)),none,(some (.ref 0))])
noncomputable def ha (P:Params):Heap:=.mk (.mk (boot_o_0 P :: boot_o_1 P :: boot_o_2 P :: boot_o_3 P :: boot_o_4 P :: boot_o_5 P :: boot_o_6 P :: boot_o_7 P :: boot_o_8 P :: boot_o_9 P :: boot_o_10 P :: x0 :: x1 :: x2 :: x3 :: [])) (.mk [] [] [] 0 [] [] false #[] [] 0 false false false 0 [2000,10,10] false 0 true [] [] 0 false)
noncomputable def hb (P:Params):Heap:=.mk (.mk (boot_o_0 P :: boot_o_1 P :: boot_o_2 P :: boot_o_3 P :: boot_o_4 P :: boot_o_5 P :: boot_o_6 P :: boot_o_7 P :: boot_o_8 P :: boot_o_9 P :: boot_o_10 P :: x0 :: x1 :: x2 :: x3 :: [])) (.mk [] [] [] 0 [] [] false #[] [] 0 false false false 0 [2000,10,10] false 0 true [] [] 0 false)
abbrev st0:List Stmt:=[top 0,top 1,top 2,top 3,top 4,top 5,top 6,top 7,top 8,top 9,top 10,top 11,top 12,top 13,top 14,top 15,top 16,top 17,top 18,top 19,top 20,top 21,top 22,top 23,top 24,top 25,top 26,top 27,top 28]
abbrev st1:List Stmt:=[top 29,top 30,top 31,top 32,top 33,top 34,top 35,top 36,top 37,top 38,top 39,top 40,top 41,top 42,top 43,top 44,top 45,top 46,top 47,top 48,top 49,top 50,top 51,top 52,top 53,top 54,top 55,top 56]
abbrev bb:List Stmt:=st0 ++ (st1 ++ ([]))
def env:Env:={ scope:=PySem.Challenge.pw_pebbletoll_k26_whole_just_so_many.main.scope,locals:=mainNs,globals:=mainNs,cells:=[],code:=(.ref 13),frame:=some 14 }
abbrev cE:Code:=.body bb env
theorem runa (w:World) (os:OsState):topGo treeTable PySem.Challenge.pw_pebbletoll_k26_whole_just_so_many w 11 (some (.ref 6)) 12 (Shared.mk (boot_heap w.params) (.mk []) boot_drawn boot_toks os) (topStub PySem.Challenge.pw_pebbletoll_k26_whole_just_so_many)=some ((Shared.mk (ha w.params) (.mk []) (.mk 0 0 0 0) 187 os),Thread.mk (denote treeTable cE) cE (.mk 0 0 0 0) [topFrame (.mk 0 0 0 0)]):=by kernel_rfl
theorem runb (w:World) (os:OsState):segRun treeTable PySem.Challenge.pw_pebbletoll_k26_whole_just_so_many w 11 (some (.ref 6)) 1 1 (Shared.mk (ha w.params) (.mk []) (.mk 0 0 0 0) 187 os) (blockOf bb env cE (.mk 0 0 0 0) [topFrame (.mk 0 0 0 0)])=some (.next,(Shared.mk (hb w.params) (.mk []) (.mk 0 0 0 0) 187 os),cE,(.mk 0 0 0 0)):=by kernel_rfl
def x4 (P:Params):Obj:=(.mk (.type "dict") none (.dict #[(en P "__name__" 165 (.str "pebbletoll.ways" 422)),(en P "__doc__" 166 .none),(en P "__package__" 167 .none),(en P "__loader__" 168 (.builtin "__main__.__loader__#opaque")),(en P "__spec__" 169 .none),(en P "__annotations__" 170 (.ref 6)),(en P "__builtins__" 171 (.ref 4)),(en P "__file__" 173 (.str "/claim/cut.py" 172)),(en P "__cached__" 174 .none),(en P "TollError" 206 (.ref 24)),(en P "BadWeb" 222 (.ref 37)),(en P "NoPlace" 238 (.ref 49)),(en P "NoRoad" 254 (.ref 61)),(en P "BadLaying" 270 (.ref 73)),(en P "BadWish" 286 (.ref 85)),(en P "MOST_PLACES" 290 (.int 24 289)),(en P "LEAST_TOLL" 292 (.int 2 291)),(en P "MOST_TOLL" 294 (.int 1000000 293)),(en P "Web" 322 (.ref 102)),(en P "toll" 335 (.ref 113)),(en P "neighbours" 343 (.ref 120)),(en P "check_place" 351 (.ref 127)),(en P "is_place" 359 (.ref 134)),(en P "check_counts" 367 (.ref 141)),(en P "check_ends" 375 (.ref 148)),(en P "check_tolls" 383 (.ref 155)),(en P "check_joined" 395 (.ref 162)),(en P "other_ends" 405 (.ref 169)),(en P "laying_of" 415 (.ref 176)),(en P "is_filled" 421 (.ref 181)),(en P "ahead" 436 (.ref 188)),(en P "down" 449 (.ref 195)),(en P "kids" 455 (.ref 200)),(en P "inward" 461 (.ref 205))] 34) #[])
def x5:Obj:=(.mk .none none (.fields #[(.int 2 0),(.int 0 0),(.ref 20),(.int 4 0),(.int 0 0),(.ref 33),(.int 6 0),(.int 0 0),(.ref 45),(.int 8 0),(.int 0 0),(.ref 57),(.int 10 0),(.int 0 0),(.ref 69),(.int 12 0),(.int 0 0),(.ref 81),(.int 18 0),(.int 0 0),(.ref 93),(.int 29 0),(.int 0 0),(.ref 112),(.int 38 0),(.int 0 0),(.ref 119),(.int 41 0),(.int 0 0),(.ref 126),(.int 44 0),(.int 0 0),(.ref 133),(.int 46 0),(.int 0 0),(.ref 140),(.int 51 0),(.int 0 0),(.ref 147),(.int 56 0),(.int 0 0),(.ref 154),(.int 60 0),(.int 0 0),(.ref 161),(.int 71 0),(.int 0 0),(.ref 168),(.int 80 0),(.int 0 0),(.ref 175),(.int 84 0),(.int 0 0),(.ref 180),(.int 87 0),(.int 0 0),(.ref 187),(.int 98 0),(.int 0 0),(.ref 194),(.int 108 0),(.int 0 0),(.ref 199),(.int 110 0),(.int 0 0),(.ref 204)]) #[])
def x6:Obj:=(tO #[(.type "ValueError")])
def x7:Obj:=(.mk (.type "builtin_function_or_method") none (.fields #[(.builtin "type.__prepare__"),(.type "type")]) #[])
def x8 (P:Params):Obj:=(.mk (.type "dict") none (.dict #[(en P "__module__" 196 (.str "pebbletoll.errors" 187)),(en P "__qualname__" 198 (.str "TollError" 197)),(en P "__firstlineno__" 200 (.int 2 199)),(en P "__static_attributes__" 201 (.ref 22))] 4) #[])
def x9:Obj:=(cO "TollError" "TollError" 191 192 193 2 0 0 0 0 (.ref 18) false 181 (.ref 19) .none .none .none .none 194 2 195)
def x10:Obj:=(.mk (.type "frame") none .plain #[(some (.ref 20)),(some (.ref 3)),(some (.ref 17)),none,(some (.str "pebbletoll.errors" 187)),none,(some (.ref 0))])
def x11 (P:Params):Obj:=(.mk (.type "dict") none (.dict #[(en P "__module__" 196 (.str "pebbletoll.errors" 187)),(en P "__firstlineno__" 200 (.int 2 199)),(en P "__static_attributes__" 201 (.ref 22)),(en P "__weakref__" 203 (.ref 25)),(en P "__doc__" 204 .none)] 3) #[])
def x12:Obj:=(.mk (.type "type") none (.cls (.mk "TollError" [(.type "ValueError")] [(.ref 24),(.type "ValueError"),(.type "Exception"),(.type "BaseException"),(.type "object")] 23 "TollError" true [] [(.ref 37),(.ref 49),(.ref 61),(.ref 73),(.ref 85)] false none false)) #[(some (.ref 15)),none,(some (.str "TollError" 189)),(some (.str "TollError" 197)),(some (.builtin "ValueError.__new__")),(some (.bool true))])
def x13:Obj:=(.mk (.type "getset_descriptor") none (.fields #[(.str "__weakref__" 202),(.ref 24),(.builtin "ExceptionGroup.__weakref__"),.none]) #[])
def x14:Obj:=(.mk (.type "super") none (.fields #[(.ref 24),(.ref 24),(.ref 24)]) #[])
def x15:Obj:=(.mk (.type "builtin_function_or_method") none (.fields #[(.builtin "object.__init_subclass__"),(.ref 24)]) #[])
def x16:Obj:=(tO #[(.ref 24)])
def x17 (P:Params):Obj:=(.mk (.type "dict") none (.dict #[(en P "__module__" 214 (.str "pebbletoll.errors" 187)),(en P "__qualname__" 216 (.str "BadWeb" 215)),(en P "__firstlineno__" 218 (.int 4 217)),(en P "__static_attributes__" 219 (.ref 35))] 4) #[])
def x18:Obj:=(cO "BadWeb" "BadWeb" 209 210 211 4 0 0 0 0 (.ref 31) false 181 (.ref 32) .none .none .none .none 212 4 213)
def x19:Obj:=(.mk (.type "frame") none .plain #[(some (.ref 33)),(some (.ref 3)),(some (.ref 30)),none,(some (.str "pebbletoll.errors" 187)),none,(some (.ref 0))])
def x20 (P:Params):Obj:=(.mk (.type "dict") none (.dict #[(en P "__module__" 214 (.str "pebbletoll.errors" 187)),(en P "__firstlineno__" 218 (.int 4 217)),(en P "__static_attributes__" 219 (.ref 35)),(en P "__doc__" 220 .none)] 2) #[])
def x21:Obj:=(.mk (.type "type") none (.cls (.mk "BadWeb" [(.ref 24)] [(.ref 37),(.ref 24),(.type "ValueError"),(.type "Exception"),(.type "BaseException"),(.type "object")] 36 "BadWeb" true [] [] false none false)) #[(some (.ref 28)),none,(some (.str "BadWeb" 207)),(some (.str "BadWeb" 215)),(some (.builtin "ValueError.__new__")),(some (.bool true))])
def x22:Obj:=(.mk (.type "super") none (.fields #[(.ref 37),(.ref 37),(.ref 37)]) #[])
def x23:Obj:=(.mk (.type "builtin_function_or_method") none (.fields #[(.builtin "object.__init_subclass__"),(.ref 37)]) #[])
def x24 (P:Params):Obj:=(.mk (.type "dict") none (.dict #[(en P "__module__" 230 (.str "pebbletoll.errors" 187)),(en P "__qualname__" 232 (.str "NoPlace" 231)),(en P "__firstlineno__" 234 (.int 6 233)),(en P "__static_attributes__" 235 (.ref 47))] 4) #[])
def x25:Obj:=(cO "NoPlace" "NoPlace" 225 226 227 6 0 0 0 0 (.ref 43) false 181 (.ref 44) .none .none .none .none 228 6 229)
def x26:Obj:=(.mk (.type "frame") none .plain #[(some (.ref 45)),(some (.ref 3)),(some (.ref 42)),none,(some (.str "pebbletoll.errors" 187)),none,(some (.ref 0))])
def x27 (P:Params):Obj:=(.mk (.type "dict") none (.dict #[(en P "__module__" 230 (.str "pebbletoll.errors" 187)),(en P "__firstlineno__" 234 (.int 6 233)),(en P "__static_attributes__" 235 (.ref 47)),(en P "__doc__" 236 .none)] 2) #[])
def x28:Obj:=(.mk (.type "type") none (.cls (.mk "NoPlace" [(.ref 24)] [(.ref 49),(.ref 24),(.type "ValueError"),(.type "Exception"),(.type "BaseException"),(.type "object")] 48 "NoPlace" true [] [] false none false)) #[(some (.ref 40)),none,(some (.str "NoPlace" 223)),(some (.str "NoPlace" 231)),(some (.builtin "ValueError.__new__")),(some (.bool true))])
def x29:Obj:=(.mk (.type "super") none (.fields #[(.ref 49),(.ref 49),(.ref 49)]) #[])
def x30:Obj:=(.mk (.type "builtin_function_or_method") none (.fields #[(.builtin "object.__init_subclass__"),(.ref 49)]) #[])
def x31 (P:Params):Obj:=(.mk (.type "dict") none (.dict #[(en P "__module__" 246 (.str "pebbletoll.errors" 187)),(en P "__qualname__" 248 (.str "NoRoad" 247)),(en P "__firstlineno__" 250 (.int 8 249)),(en P "__static_attributes__" 251 (.ref 59))] 4) #[])
def x32:Obj:=(cO "NoRoad" "NoRoad" 241 242 243 8 0 0 0 0 (.ref 55) false 181 (.ref 56) .none .none .none .none 244 8 245)
def x33:Obj:=(.mk (.type "frame") none .plain #[(some (.ref 57)),(some (.ref 3)),(some (.ref 54)),none,(some (.str "pebbletoll.errors" 187)),none,(some (.ref 0))])
def x34 (P:Params):Obj:=(.mk (.type "dict") none (.dict #[(en P "__module__" 246 (.str "pebbletoll.errors" 187)),(en P "__firstlineno__" 250 (.int 8 249)),(en P "__static_attributes__" 251 (.ref 59)),(en P "__doc__" 252 .none)] 2) #[])
def x35:Obj:=(.mk (.type "type") none (.cls (.mk "NoRoad" [(.ref 24)] [(.ref 61),(.ref 24),(.type "ValueError"),(.type "Exception"),(.type "BaseException"),(.type "object")] 60 "NoRoad" true [] [] false none false)) #[(some (.ref 52)),none,(some (.str "NoRoad" 239)),(some (.str "NoRoad" 247)),(some (.builtin "ValueError.__new__")),(some (.bool true))])
def x36:Obj:=(.mk (.type "super") none (.fields #[(.ref 61),(.ref 61),(.ref 61)]) #[])
def x37:Obj:=(.mk (.type "builtin_function_or_method") none (.fields #[(.builtin "object.__init_subclass__"),(.ref 61)]) #[])
def x38 (P:Params):Obj:=(.mk (.type "dict") none (.dict #[(en P "__module__" 262 (.str "pebbletoll.errors" 187)),(en P "__qualname__" 264 (.str "BadLaying" 263)),(en P "__firstlineno__" 266 (.int 10 265)),(en P "__static_attributes__" 267 (.ref 71))] 4) #[])
def x39:Obj:=(cO "BadLaying" "BadLaying" 257 258 259 10 0 0 0 0 (.ref 67) false 181 (.ref 68) .none .none .none .none 260 10 261)
def x40:Obj:=(.mk (.type "frame") none .plain #[(some (.ref 69)),(some (.ref 3)),(some (.ref 66)),none,(some (.str "pebbletoll.errors" 187)),none,(some (.ref 0))])
def x41 (P:Params):Obj:=(.mk (.type "dict") none (.dict #[(en P "__module__" 262 (.str "pebbletoll.errors" 187)),(en P "__firstlineno__" 266 (.int 10 265)),(en P "__static_attributes__" 267 (.ref 71)),(en P "__doc__" 268 .none)] 2) #[])
def x42:Obj:=(.mk (.type "type") none (.cls (.mk "BadLaying" [(.ref 24)] [(.ref 73),(.ref 24),(.type "ValueError"),(.type "Exception"),(.type "BaseException"),(.type "object")] 72 "BadLaying" true [] [] false none false)) #[(some (.ref 64)),none,(some (.str "BadLaying" 255)),(some (.str "BadLaying" 263)),(some (.builtin "ValueError.__new__")),(some (.bool true))])
def x43:Obj:=(.mk (.type "super") none (.fields #[(.ref 73),(.ref 73),(.ref 73)]) #[])
def x44:Obj:=(.mk (.type "builtin_function_or_method") none (.fields #[(.builtin "object.__init_subclass__"),(.ref 73)]) #[])
def x45 (P:Params):Obj:=(.mk (.type "dict") none (.dict #[(en P "__module__" 278 (.str "pebbletoll.errors" 187)),(en P "__qualname__" 280 (.str "BadWish" 279)),(en P "__firstlineno__" 282 (.int 12 281)),(en P "__static_attributes__" 283 (.ref 83))] 4) #[])
def x46:Obj:=(cO "BadWish" "BadWish" 273 274 275 12 0 0 0 0 (.ref 79) false 181 (.ref 80) .none .none .none .none 276 12 277)
def x47:Obj:=(.mk (.type "frame") none .plain #[(some (.ref 81)),(some (.ref 3)),(some (.ref 78)),none,(some (.str "pebbletoll.errors" 187)),none,(some (.ref 0))])
def x48 (P:Params):Obj:=(.mk (.type "dict") none (.dict #[(en P "__module__" 278 (.str "pebbletoll.errors" 187)),(en P "__firstlineno__" 282 (.int 12 281)),(en P "__static_attributes__" 283 (.ref 83)),(en P "__doc__" 284 .none)] 2) #[])
def x49:Obj:=(.mk (.type "type") none (.cls (.mk "BadWish" [(.ref 24)] [(.ref 85),(.ref 24),(.type "ValueError"),(.type "Exception"),(.type "BaseException"),(.type "object")] 84 "BadWish" true [] [] false none false)) #[(some (.ref 76)),none,(some (.str "BadWish" 271)),(some (.str "BadWish" 279)),(some (.builtin "ValueError.__new__")),(some (.bool true))])
def x50:Obj:=(.mk (.type "super") none (.fields #[(.ref 85),(.ref 85),(.ref 85)]) #[])
def x51:Obj:=(.mk (.type "builtin_function_or_method") none (.fields #[(.builtin "object.__init_subclass__"),(.ref 85)]) #[])
def x52 (P:Params):Obj:=(.mk (.type "dict") none (.dict #[(en P "__module__" 302 (.str "pebbletoll.webs" 287)),(en P "__qualname__" 304 (.str "Web" 303)),(en P "__firstlineno__" 306 (.int 18 305)),(en P "__init__" 312 (.ref 99)),(en P "__static_attributes__" 315 (.ref 100))] 5) #[])
def x53:Obj:=(.mk .none none (.fields #[(.int 20 0),(.int 4 0),(.ref 98)]) #[])
def x54:Obj:=(cO "Web" "Web" 297 298 299 18 0 0 0 0 (.ref 91) false 181 (.ref 92) .none .none .none .none 300 18 301)
def x55:Obj:=(.mk (.type "frame") none .plain #[(some (.ref 93)),(some (.ref 3)),(some (.ref 90)),none,(some (.str "pebbletoll.webs" 287)),none,(some (.ref 0))])
def x56:Obj:=(fR "__init__" "Web.__init__" (inC (top 11) 0))
def x57:Obj:=(cO "__init__" "Web.__init__" 307 308 309 20 3 0 0 3 (.ref 95) true 181 (.ref 96) .none .none .none (.ref 97) 310 20 311)
def x58:Obj:=(fO "__init__" "Web.__init__" (inC (top 11) 0) (.str "pebbletoll.webs" 287) (.ref 98))
def x59:Obj:=(tO #[(.str "many" 313),(.str "roads" 314)])
def x60 (P:Params):Obj:=(.mk (.type "dict") none (.dict #[(en P "__module__" 302 (.str "pebbletoll.webs" 287)),(en P "__firstlineno__" 306 (.int 18 305)),(en P "__init__" 312 (.ref 99)),(en P "__static_attributes__" 315 (.ref 100)),(en P "__dict__" 317 (.ref 103)),(en P "__weakref__" 319 (.ref 104)),(en P "__doc__" 320 .none)] 4) #[])
def x61:Obj:=(.mk (.type "type") none (.cls (.mk "Web" [(.type "object")] [(.ref 102),(.type "object")] 101 "Web" true [] [] false none false)) #[none,none,(some (.str "Web" 295)),(some (.str "Web" 303)),(some (.builtin "object.__new__")),(some (.bool true))])
def x62:Obj:=(.mk (.type "getset_descriptor") none (.fields #[(.str "__dict__" 316),(.ref 102),(.builtin "function.__dict__"),(.builtin "function.__dict__#set")]) #[])
def x63:Obj:=(.mk (.type "getset_descriptor") none (.fields #[(.str "__weakref__" 318),(.ref 102),(.builtin "ExceptionGroup.__weakref__"),.none]) #[])
def x64:Obj:=(.mk (.type "super") none (.fields #[(.ref 102),(.ref 102),(.ref 102)]) #[])
def x65:Obj:=(.mk (.type "builtin_function_or_method") none (.fields #[(.builtin "object.__init_subclass__"),(.ref 102)]) #[])
def x66:Obj:=(tO #[(.str "web" 326),(.str "a" 327),(.str "b" 328),(.str "one" 329),(.str "other" 330),(.str "there" 331),(.str "back" 332)])
def x67:Obj:=(fR "toll" "toll" (top 12))
def x68:Obj:=(cO "toll" "toll" 323 324 325 29 3 0 0 3 (.ref 107) true 181 (.ref 108) .none (.ref 109) (.ref 110) (.ref 111) 333 29 334)
def x69:Obj:=(fO "toll" "toll" (top 12) (.str "pebbletoll.webs" 287) (.ref 112))
def x70:Obj:=(tO #[(.str "web" 339),(.str "a" 340)])
def x71:Obj:=(fR "neighbours" "neighbours" (top 13))
def x72:Obj:=(cO "neighbours" "neighbours" 336 337 338 38 2 0 0 3 (.ref 114) true 181 (.ref 115) .none (.ref 116) (.ref 117) (.ref 118) 341 38 342)
def x73:Obj:=(fO "neighbours" "neighbours" (top 13) (.str "pebbletoll.webs" 287) (.ref 119))
def x74:Obj:=(tO #[(.str "web" 347),(.str "number" 348)])
def x75:Obj:=(fR "check_place" "check_place" (top 14))
def x76:Obj:=(cO "check_place" "check_place" 344 345 346 41 2 0 0 3 (.ref 121) true 181 (.ref 122) .none (.ref 123) (.ref 124) (.ref 125) 349 41 350)
def x77:Obj:=(fO "check_place" "check_place" (top 14) (.str "pebbletoll.webs" 287) (.ref 126))
def x78:Obj:=(tO #[(.str "many" 355),(.str "number" 356)])
def x79:Obj:=(fR "is_place" "is_place" (top 15))
def x80:Obj:=(cO "is_place" "is_place" 352 353 354 44 2 0 0 3 (.ref 128) true 181 (.ref 129) .none (.ref 130) (.ref 131) (.ref 132) 357 44 358)
def x81:Obj:=(fO "is_place" "is_place" (top 15) (.str "pebbletoll.webs" 287) (.ref 133))
def x82:Obj:=(tO #[(.str "many" 363),(.str "roads" 364)])
def x83:Obj:=(fR "check_counts" "check_counts" (top 16))
def x84:Obj:=(cO "check_counts" "check_counts" 360 361 362 46 2 0 0 3 (.ref 135) true 181 (.ref 136) .none (.ref 137) (.ref 138) (.ref 139) 365 46 366)
def x85:Obj:=(fO "check_counts" "check_counts" (top 16) (.str "pebbletoll.webs" 287) (.ref 140))
def x86:Obj:=(tO #[(.str "many" 371),(.str "road" 372)])
def x87:Obj:=(fR "check_ends" "check_ends" (top 17))
def x88:Obj:=(cO "check_ends" "check_ends" 368 369 370 51 2 0 0 3 (.ref 142) true 181 (.ref 143) .none (.ref 144) (.ref 145) (.ref 146) 373 51 374)
def x89:Obj:=(fO "check_ends" "check_ends" (top 17) (.str "pebbletoll.webs" 287) (.ref 147))
def x90:Obj:=(tO #[(.str "road" 379),(.str "number" 380)])
def x91:Obj:=(fR "check_tolls" "check_tolls" (top 18))
def x92:Obj:=(cO "check_tolls" "check_tolls" 376 377 378 56 1 0 0 3 (.ref 149) true 181 (.ref 150) .none (.ref 151) (.ref 152) (.ref 153) 381 56 382)
def x93:Obj:=(fO "check_tolls" "check_tolls" (top 18) (.str "pebbletoll.webs" 287) (.ref 154))
def x94:Obj:=(tO #[(.str "many" 387),(.str "roads" 388),(.str "reached" 389),(.str "waiting" 390),(.str "place" 391),(.str "end" 392)])
def x95:Obj:=(fR "check_joined" "check_joined" (top 19))
def x96:Obj:=(cO "check_joined" "check_joined" 384 385 386 60 2 0 0 3 (.ref 156) true 181 (.ref 157) .none (.ref 158) (.ref 159) (.ref 160) 393 60 394)
def x97:Obj:=(fO "check_joined" "check_joined" (top 19) (.str "pebbletoll.webs" 287) (.ref 161))
def x98:Obj:=(tO #[(.str "roads" 399),(.str "place" 400),(.str "ends" 401),(.str "road" 402)])
def x99:Obj:=(fR "other_ends" "other_ends" (top 20))
def x100:Obj:=(cO "other_ends" "other_ends" 396 397 398 71 2 0 0 3 (.ref 163) true 181 (.ref 164) .none (.ref 165) (.ref 166) (.ref 167) 403 71 404)
def x101:Obj:=(fO "other_ends" "other_ends" (top 20) (.str "pebbletoll.webs" 287) (.ref 168))
def x102:Obj:=(tO #[(.str "web" 411),(.str "numbers" 412)])
def x103:Obj:=(fR "laying_of" "laying_of" (top 22))
def x104:Obj:=(cO "laying_of" "laying_of" 408 409 410 80 2 0 0 3 (.ref 170) true 181 (.ref 171) .none (.ref 172) (.ref 173) (.ref 174) 413 80 414)
def x105:Obj:=(fO "laying_of" "laying_of" (top 22) (.str "pebbletoll.layings" 406) (.ref 175))
def x106:Obj:=(fR "is_filled" "is_filled" (top 23))
def x107:Obj:=(cO "is_filled" "is_filled" 416 417 418 84 2 0 0 3 (.ref 177) true 181 (.ref 178) .none .none .none (.ref 179) 419 84 420)
def x108:Obj:=(fO "is_filled" "is_filled" (top 23) (.str "pebbletoll.layings" 406) (.ref 180))
def x109:Obj:=(tO #[(.str "web" 427),(.str "r" 428),(.str "nearer" 429),(.str "waiting" 430),(.str "place" 431),(.str "front" 432),(.str "kid" 433)])
def x110:Obj:=(fR "ahead" "ahead" (top 25))
def x111:Obj:=(cO "ahead" "ahead" 424 425 426 87 2 0 0 3 (.ref 182) true 181 (.ref 183) .none (.ref 184) (.ref 185) (.ref 186) 434 87 435)
def x112:Obj:=(fO "ahead" "ahead" (top 25) (.str "pebbletoll.ways" 422) (.ref 187))
def x113:Obj:=(tO #[(.str "web" 440),(.str "r" 441),(.str "nearer" 442),(.str "places" 443),(.str "waiting" 444),(.str "place" 445),(.str "kid" 446)])
def x114:Obj:=(fR "down" "down" (top 26))
def x115:Obj:=(cO "down" "down" 437 438 439 98 2 0 0 3 (.ref 189) true 181 (.ref 190) .none (.ref 191) (.ref 192) (.ref 193) 447 98 448)
def x116:Obj:=(fO "down" "down" (top 26) (.str "pebbletoll.ways" 422) (.ref 194))
def x117:Obj:=(fR "kids" "kids" (top 27))
def x118:Obj:=(cO "kids" "kids" 450 451 452 108 3 0 0 3 (.ref 196) true 181 (.ref 197) .none .none .none (.ref 198) 453 108 454)
def x119:Obj:=(fO "kids" "kids" (top 27) (.str "pebbletoll.ways" 422) (.ref 199))
def x120:Obj:=(fR "inward" "inward" (top 28))
def x121:Obj:=(cO "inward" "inward" 456 457 458 110 2 0 0 3 (.ref 201) true 181 (.ref 202) .none .none .none (.ref 203) 459 110 460)
def x122:Obj:=(fO "inward" "inward" (top 28) (.str "pebbletoll.ways" 422) (.ref 204))
noncomputable def h0 (P:Params):Heap:=.mk (.mk (boot_o_0 P :: boot_o_1 P :: boot_o_2 P :: x4 P :: boot_o_4 P :: boot_o_5 P :: boot_o_6 P :: boot_o_7 P :: boot_o_8 P :: boot_o_9 P :: boot_o_10 P :: x0 :: x5 :: x2 :: x3 :: x6 :: x7 :: x8 P :: x0 :: x1 :: x9 :: x10 :: x0 :: x11 P :: x12 :: x13 :: x14 :: x15 :: x16 :: x7 :: x17 P :: x0 :: x1 :: x18 :: x19 :: x0 :: x20 P :: x21 :: x22 :: x23 :: x16 :: x7 :: x24 P :: x0 :: x1 :: x25 :: x26 :: x0 :: x27 P :: x28 :: x29 :: x30 :: x16 :: x7 :: x31 P :: x0 :: x1 :: x32 :: x33 :: x0 :: x34 P :: x35 :: x36 :: x37 :: x16 :: x7 :: x38 P :: x0 :: x1 :: x39 :: x40 :: x0 :: x41 P :: x42 :: x43 :: x44 :: x16 :: x7 :: x45 P :: x0 :: x1 :: x46 :: x47 :: x0 :: x48 P :: x49 :: x50 :: x51 :: x0 :: x7 :: x52 P :: x0 :: x53 :: x54 :: x55 :: x0 :: x1 :: x56 :: x57 :: x58 :: x59 :: x60 P :: x61 :: x62 :: x63 :: x64 :: x65 :: x0 :: x1 :: x66 :: x0 :: x67 :: x68 :: x69 :: x0 :: x1 :: x70 :: x0 :: x71 :: x72 :: x73 :: x0 :: x1 :: x74 :: x0 :: x75 :: x76 :: x77 :: x0 :: x1 :: x78 :: x0 :: x79 :: x80 :: x81 :: x0 :: x1 :: x82 :: x0 :: x83 :: x84 :: x85 :: x0 :: x1 :: x86 :: x0 :: x87 :: x88 :: x89 :: x0 :: x1 :: x90 :: x0 :: x91 :: x92 :: x93 :: x0 :: x1 :: x94 :: x0 :: x95 :: x96 :: x97 :: x0 :: x1 :: x98 :: x0 :: x99 :: x100 :: x101 :: x0 :: x1 :: x102 :: x0 :: x103 :: x104 :: x105 :: x0 :: x1 :: x106 :: x107 :: x108 :: x0 :: x1 :: x109 :: x0 :: x110 :: x111 :: x112 :: x0 :: x1 :: x113 :: x0 :: x114 :: x115 :: x116 :: x0 :: x1 :: x117 :: x118 :: x119 :: x0 :: x1 :: x120 :: x121 :: x122 :: [])) (.mk [] [] [] 0 [] [] false #[] [] 0 false false false 0 [2000,10,10] false 0 true [] [] 0 false)
theorem run0 (w:World) (os:OsState):segRun treeTable PySem.Challenge.pw_pebbletoll_k26_whole_just_so_many w 11 (some (.ref 6)) 1 1993 (Shared.mk (hb w.params) (.mk []) (.mk 0 0 0 0) 187 os) (piecesOf st0 env cE (.mk 0 0 0 0) [topFrame (.mk 0 0 0 0)])=some (.next,(Shared.mk (h0 w.params) (.mk []) (.mk 0 0 0 0) 462 os),cE,(.mk 110 0 112 85)):=by kernel_rfl
def x123 (P:Params):Obj:=(.mk (.type "dict") none (.dict #[(en P "__name__" 165 (.str "law_pebbletoll_k26_whole_just_so_many" 551)),(en P "__doc__" 166 .none),(en P "__package__" 167 .none),(en P "__loader__" 168 (.builtin "__main__.__loader__#opaque")),(en P "__spec__" 169 .none),(en P "__annotations__" 170 (.ref 6)),(en P "__builtins__" 171 (.ref 4)),(en P "__file__" 173 (.str "/claim/cut.py" 172)),(en P "__cached__" 174 .none),(en P "TollError" 206 (.ref 24)),(en P "BadWeb" 222 (.ref 37)),(en P "NoPlace" 238 (.ref 49)),(en P "NoRoad" 254 (.ref 61)),(en P "BadLaying" 270 (.ref 73)),(en P "BadWish" 286 (.ref 85)),(en P "MOST_PLACES" 290 (.int 24 289)),(en P "LEAST_TOLL" 292 (.int 2 291)),(en P "MOST_TOLL" 294 (.int 1000000 293)),(en P "Web" 322 (.ref 102)),(en P "toll" 335 (.ref 113)),(en P "neighbours" 343 (.ref 120)),(en P "check_place" 351 (.ref 127)),(en P "is_place" 359 (.ref 134)),(en P "check_counts" 367 (.ref 141)),(en P "check_ends" 375 (.ref 148)),(en P "check_tolls" 383 (.ref 155)),(en P "check_joined" 395 (.ref 162)),(en P "other_ends" 405 (.ref 169)),(en P "laying_of" 415 (.ref 176)),(en P "is_filled" 421 (.ref 181)),(en P "ahead" 436 (.ref 188)),(en P "down" 449 (.ref 195)),(en P "kids" 455 (.ref 200)),(en P "inward" 461 (.ref 205)),(en P "wish_of" 471 (.ref 212)),(en P "standings" 477 (.ref 217)),(en P "handed_on" 487 (.ref 224)),(en P "standing" 497 (.ref 231)),(en P "is_met" 506 (.ref 238)),(en P "meeting" 515 (.ref 245)),(en P "steps_in" 530 (.ref 252)),(en P "steps_out" 544 (.ref 259)),(en P "lacks_of" 550 (.ref 264)),(en P "_law_drawn" 563 (.ref 271)),(en P "_law_toll" 570 (.ref 278)),(en P "_law_roads" 585 (.ref 285)),(en P "_law_web" 595 (.ref 292)),(en P "_law_tolls" 607 (.ref 299)),(en P "_law_down" 621 (.ref 306)),(en P "_law_standings" 627 (.ref 311)),(en P "_law_bound" 635 (.ref 318)),(en P "_law_laying" 647 (.ref 325)),(en P "_law_wish" 659 (.ref 332)),(en P "_law_edge" 673 (.ref 339)),(en P "_law_done" 686 (.ref 346)),(en P "_law_covers" 692 (.ref 351)),(en P "_law_is_led" 703 (.ref 358)),(en P "_law_more" 713 (.ref 365)),(en P "_law_right" 725 (.ref 372)),(en P "law" 741 (.ref 379))] 60) #[])
def x124:Obj:=(.mk .none none (.fields #[(.int 2 0),(.int 0 0),(.ref 20),(.int 4 0),(.int 0 0),(.ref 33),(.int 6 0),(.int 0 0),(.ref 45),(.int 8 0),(.int 0 0),(.ref 57),(.int 10 0),(.int 0 0),(.ref 69),(.int 12 0),(.int 0 0),(.ref 81),(.int 18 0),(.int 0 0),(.ref 93),(.int 29 0),(.int 0 0),(.ref 112),(.int 38 0),(.int 0 0),(.ref 119),(.int 41 0),(.int 0 0),(.ref 126),(.int 44 0),(.int 0 0),(.ref 133),(.int 46 0),(.int 0 0),(.ref 140),(.int 51 0),(.int 0 0),(.ref 147),(.int 56 0),(.int 0 0),(.ref 154),(.int 60 0),(.int 0 0),(.ref 161),(.int 71 0),(.int 0 0),(.ref 168),(.int 80 0),(.int 0 0),(.ref 175),(.int 84 0),(.int 0 0),(.ref 180),(.int 87 0),(.int 0 0),(.ref 187),(.int 98 0),(.int 0 0),(.ref 194),(.int 108 0),(.int 0 0),(.ref 199),(.int 110 0),(.int 0 0),(.ref 204),(.int 114 0),(.int 0 0),(.ref 211),(.int 118 0),(.int 0 0),(.ref 216),(.int 125 0),(.int 0 0),(.ref 223),(.int 129 0),(.int 0 0),(.ref 230),(.int 131 0),(.int 0 0),(.ref 237),(.int 133 0),(.int 0 0),(.ref 244),(.int 137 0),(.int 0 0),(.ref 251),(.int 145 0),(.int 0 0),(.ref 258),(.int 152 0),(.int 0 0),(.ref 263),(.int 155 0),(.int 0 0),(.ref 270),(.int 164 0),(.int 0 0),(.ref 277),(.int 168 0),(.int 0 0),(.ref 284),(.int 183 0),(.int 0 0),(.ref 291),(.int 189 0),(.int 0 0),(.ref 298),(.int 195 0),(.int 0 0),(.ref 305),(.int 205 0),(.int 0 0),(.ref 310),(.int 213 0),(.int 0 0),(.ref 317),(.int 216 0),(.int 0 0),(.ref 324),(.int 223 0),(.int 0 0),(.ref 331),(.int 230 0),(.int 0 0),(.ref 338),(.int 238 0),(.int 0 0),(.ref 345),(.int 246 0),(.int 0 0),(.ref 350),(.int 248 0),(.int 0 0),(.ref 357),(.int 251 0),(.int 0 0),(.ref 364),(.int 255 0),(.int 0 0),(.ref 371),(.int 264 0),(.int 0 0),(.ref 378)]) #[])
def x125:Obj:=(tO #[(.str "web" 467),(.str "numbers" 468)])
def x126:Obj:=(fR "wish_of" "wish_of" (top 30))
def x127:Obj:=(cO "wish_of" "wish_of" 464 465 466 114 2 0 0 3 (.ref 206) true 181 (.ref 207) .none (.ref 208) (.ref 209) (.ref 210) 469 114 470)
def x128:Obj:=(fO "wish_of" "wish_of" (top 30) (.str "pebbletoll.wishes" 462) (.ref 211))
def x129:Obj:=(fR "standings" "standings" (top 31))
def x130:Obj:=(cO "standings" "standings" 472 473 474 118 4 0 0 3 (.ref 213) true 181 (.ref 214) .none .none .none (.ref 215) 475 118 476)
def x131:Obj:=(fO "standings" "standings" (top 31) (.str "pebbletoll.wishes" 462) (.ref 216))
def x132:Obj:=(tO #[(.str "web" 481),(.str "over" 482),(.str "place" 483),(.str "front" 484)])
def x133:Obj:=(fR "handed_on" "handed_on" (top 32))
def x134:Obj:=(cO "handed_on" "handed_on" 478 479 480 125 4 0 0 3 (.ref 218) true 181 (.ref 219) .none (.ref 220) (.ref 221) (.ref 222) 485 125 486)
def x135:Obj:=(fO "handed_on" "handed_on" (top 32) (.str "pebbletoll.wishes" 462) (.ref 223))
def x136:Obj:=(tO #[(.str "web" 491),(.str "laying" 492),(.str "wish" 493),(.str "r" 494)])
def x137:Obj:=(fR "standing" "standing" (top 33))
def x138:Obj:=(cO "standing" "standing" 488 489 490 129 4 0 0 3 (.ref 225) true 181 (.ref 226) .none (.ref 227) (.ref 228) (.ref 229) 495 129 496)
def x139:Obj:=(fO "standing" "standing" (top 33) (.str "pebbletoll.wishes" 462) (.ref 230))
def x140:Obj:=(tO #[(.str "web" 501),(.str "laying" 502),(.str "wish" 503)])
def x141:Obj:=(fR "is_met" "is_met" (top 34))
def x142:Obj:=(cO "is_met" "is_met" 498 499 500 131 3 0 0 3 (.ref 232) true 181 (.ref 233) .none (.ref 234) (.ref 235) (.ref 236) 504 131 505)
def x143:Obj:=(fO "is_met" "is_met" (top 34) (.str "pebbletoll.wishes" 462) (.ref 237))
def x144:Obj:=(tO #[(.str "web" 510),(.str "laying" 511),(.str "wish" 512)])
def x145:Obj:=(fR "meeting" "meeting" (top 35))
def x146:Obj:=(cO "meeting" "meeting" 507 508 509 133 3 0 0 3 (.ref 239) true 181 (.ref 240) .none (.ref 241) (.ref 242) (.ref 243) 513 133 514)
def x147:Obj:=(fO "meeting" "meeting" (top 35) (.str "pebbletoll.wishes" 462) (.ref 244))
def x148:Obj:=(tO #[(.str "web" 519),(.str "laying" 520),(.str "wish" 521),(.str "r" 522),(.str "over" 523),(.str "steps" 524),(.str "place" 525),(.str "front" 526),(.str "times" 527)])
def x149:Obj:=(fR "steps_in" "steps_in" (top 36))
def x150:Obj:=(cO "steps_in" "steps_in" 516 517 518 137 4 0 0 3 (.ref 246) true 181 (.ref 247) .none (.ref 248) (.ref 249) (.ref 250) 528 137 529)
def x151:Obj:=(fO "steps_in" "steps_in" (top 36) (.str "pebbletoll.wishes" 462) (.ref 251))
def x152:Obj:=(tO #[(.str "web" 534),(.str "laying" 535),(.str "wish" 536),(.str "r" 537),(.str "over" 538),(.str "steps" 539),(.str "place" 540),(.str "front" 541)])
def x153:Obj:=(fR "steps_out" "steps_out" (top 37))
def x154:Obj:=(cO "steps_out" "steps_out" 531 532 533 145 4 0 0 3 (.ref 253) true 181 (.ref 254) .none (.ref 255) (.ref 256) (.ref 257) 542 145 543)
def x155:Obj:=(fO "steps_out" "steps_out" (top 37) (.str "pebbletoll.wishes" 462) (.ref 258))
def x156:Obj:=(fR "lacks_of" "lacks_of" (top 38))
def x157:Obj:=(cO "lacks_of" "lacks_of" 545 546 547 152 3 0 0 3 (.ref 260) true 181 (.ref 261) .none .none .none (.ref 262) 548 152 549)
def x158:Obj:=(fO "lacks_of" "lacks_of" (top 38) (.str "pebbletoll.wishes" 462) (.ref 263))
def x159:Obj:=(tO #[(.str "script" 556),(.str "k" 557),(.str "cell" 558),(.str "near" 559),(.str "far" 560)])
def x160:Obj:=(fR "_law_drawn" "_law_drawn" (top 40))
def x161:Obj:=(cO "_law_drawn" "_law_drawn" 553 554 555 155 2 0 0 3 (.ref 265) true 181 (.ref 266) .none (.ref 267) (.ref 268) (.ref 269) 561 155 562)
def x162:Obj:=(fO "_law_drawn" "_law_drawn" (top 40) (.str "law_pebbletoll_k26_whole_just_so_many" 551) (.ref 270))
def x163:Obj:=(tO #[(.str "part" 567)])
def x164:Obj:=(fR "_law_toll" "_law_toll" (top 41))
def x165:Obj:=(cO "_law_toll" "_law_toll" 564 565 566 164 1 0 0 3 (.ref 272) true 181 (.ref 273) .none (.ref 274) (.ref 275) (.ref 276) 568 164 569)
def x166:Obj:=(fO "_law_toll" "_law_toll" (top 41) (.str "law_pebbletoll_k26_whole_just_so_many" 551) (.ref 277))
def x167:Obj:=(tO #[(.str "script" 574),(.str "many" 575),(.str "shape" 576),(.str "roads" 577),(.str "k" 578),(.str "part" 579),(.str "to" 580),(.str "there" 581),(.str "back" 582)])
def x168:Obj:=(fR "_law_roads" "_law_roads" (top 42))
def x169:Obj:=(cO "_law_roads" "_law_roads" 571 572 573 168 3 0 0 3 (.ref 279) true 181 (.ref 280) .none (.ref 281) (.ref 282) (.ref 283) 583 168 584)
def x170:Obj:=(fO "_law_roads" "_law_roads" (top 42) (.str "law_pebbletoll_k26_whole_just_so_many" 551) (.ref 284))
def x171:Obj:=(tO #[(.str "script" 589),(.str "reach" 590),(.str "head" 591),(.str "many" 592)])
def x172:Obj:=(fR "_law_web" "_law_web" (top 43))
def x173:Obj:=(cO "_law_web" "_law_web" 586 587 588 183 2 0 0 3 (.ref 286) true 181 (.ref 287) .none (.ref 288) (.ref 289) (.ref 290) 593 183 594)
def x174:Obj:=(fO "_law_web" "_law_web" (top 43) (.str "law_pebbletoll_k26_whole_just_so_many" 551) (.ref 291))
def x175:Obj:=(tO #[(.str "roads" 599),(.str "tolls" 600),(.str "one" 601),(.str "other" 602),(.str "there" 603),(.str "back" 604)])
def x176:Obj:=(fR "_law_tolls" "_law_tolls" (top 44))
def x177:Obj:=(cO "_law_tolls" "_law_tolls" 596 597 598 189 1 0 0 3 (.ref 293) true 181 (.ref 294) .none (.ref 295) (.ref 296) (.ref 297) 605 189 606)
def x178:Obj:=(fO "_law_tolls" "_law_tolls" (top 44) (.str "law_pebbletoll_k26_whole_just_so_many" 551) (.ref 298))
def x179:Obj:=(tO #[(.str "tolls" 611),(.str "many" 612),(.str "r" 613),(.str "order" 614),(.str "at" 615),(.str "place" 616),(.str "above" 617),(.str "kid" 618)])
def x180:Obj:=(fR "_law_down" "_law_down" (top 45))
def x181:Obj:=(cO "_law_down" "_law_down" 608 609 610 195 3 0 0 3 (.ref 300) true 181 (.ref 301) .none (.ref 302) (.ref 303) (.ref 304) 619 195 620)
def x182:Obj:=(fO "_law_down" "_law_down" (top 45) (.str "law_pebbletoll_k26_whole_just_so_many" 551) (.ref 305))
def x183:Obj:=(fR "_law_standings" "_law_standings" (top 46))
def x184:Obj:=(cO "_law_standings" "_law_standings" 622 623 624 205 5 0 0 3 (.ref 307) true 181 (.ref 308) .none .none .none (.ref 309) 625 205 626)
def x185:Obj:=(fO "_law_standings" "_law_standings" (top 46) (.str "law_pebbletoll_k26_whole_just_so_many" 551) (.ref 310))
def x186:Obj:=(tO #[(.str "script" 631),(.str "head" 632)])
def x187:Obj:=(fR "_law_bound" "_law_bound" (top 47))
def x188:Obj:=(cO "_law_bound" "_law_bound" 628 629 630 213 1 0 0 3 (.ref 312) true 181 (.ref 313) .none (.ref 314) (.ref 315) (.ref 316) 633 213 634)
def x189:Obj:=(fO "_law_bound" "_law_bound" (top 47) (.str "law_pebbletoll_k26_whole_just_so_many" 551) (.ref 317))
def x190:Obj:=(tO #[(.str "script" 639),(.str "many" 640),(.str "bound" 641),(.str "laying" 642),(.str "k" 643),(.str "place" 644)])
def x191:Obj:=(fR "_law_laying" "_law_laying" (top 48))
def x192:Obj:=(cO "_law_laying" "_law_laying" 636 637 638 216 3 0 0 3 (.ref 319) true 181 (.ref 320) .none (.ref 321) (.ref 322) (.ref 323) 645 216 646)
def x193:Obj:=(fO "_law_laying" "_law_laying" (top 48) (.str "law_pebbletoll_k26_whole_just_so_many" 551) (.ref 324))
def x194:Obj:=(tO #[(.str "script" 651),(.str "many" 652),(.str "bound" 653),(.str "wish" 654),(.str "k" 655),(.str "place" 656)])
def x195:Obj:=(fR "_law_wish" "_law_wish" (top 49))
def x196:Obj:=(cO "_law_wish" "_law_wish" 648 649 650 223 3 0 0 3 (.ref 326) true 181 (.ref 327) .none (.ref 328) (.ref 329) (.ref 330) 657 223 658)
def x197:Obj:=(fO "_law_wish" "_law_wish" (top 49) (.str "law_pebbletoll_k26_whole_just_so_many" 551) (.ref 331))
def x198:Obj:=(tO #[(.str "script" 663),(.str "tolls" 664),(.str "many" 665),(.str "laying" 666),(.str "wish" 667),(.str "head" 668),(.str "r" 669),(.str "due" 670)])
def x199:Obj:=(fR "_law_edge" "_law_edge" (top 50))
def x200:Obj:=(cO "_law_edge" "_law_edge" 660 661 662 230 5 0 0 3 (.ref 333) true 181 (.ref 334) .none (.ref 335) (.ref 336) (.ref 337) 671 230 672)
def x201:Obj:=(fO "_law_edge" "_law_edge" (top 50) (.str "law_pebbletoll_k26_whole_just_so_many" 551) (.ref 338))
def x202:Obj:=(tO #[(.str "tolls" 677),(.str "laying" 678),(.str "steps" 679),(.str "held" 680),(.str "a" 681),(.str "b" 682),(.str "often" 683)])
def x203:Obj:=(fR "_law_done" "_law_done" (top 51))
def x204:Obj:=(cO "_law_done" "_law_done" 674 675 676 238 3 0 0 3 (.ref 340) true 181 (.ref 341) .none (.ref 342) (.ref 343) (.ref 344) 684 238 685)
def x205:Obj:=(fO "_law_done" "_law_done" (top 51) (.str "law_pebbletoll_k26_whole_just_so_many" 551) (.ref 345))
def x206:Obj:=(fR "_law_covers" "_law_covers" (top 52))
def x207:Obj:=(cO "_law_covers" "_law_covers" 687 688 689 246 2 0 0 3 (.ref 347) true 181 (.ref 348) .none .none .none (.ref 349) 690 246 691)
def x208:Obj:=(fO "_law_covers" "_law_covers" (top 52) (.str "law_pebbletoll_k26_whole_just_so_many" 551) (.ref 350))
def x209:Obj:=(tO #[(.str "web" 696),(.str "tolls" 697),(.str "laying" 698),(.str "wish" 699),(.str "found" 700)])
def x210:Obj:=(fR "_law_is_led" "_law_is_led" (top 53))
def x211:Obj:=(cO "_law_is_led" "_law_is_led" 693 694 695 248 4 0 0 3 (.ref 352) true 181 (.ref 353) .none (.ref 354) (.ref 355) (.ref 356) 701 248 702)
def x212:Obj:=(fO "_law_is_led" "_law_is_led" (top 53) (.str "law_pebbletoll_k26_whole_just_so_many" 551) (.ref 357))
def x213:Obj:=(tO #[(.str "numbers" 707),(.str "place" 708),(.str "many" 709),(.str "made" 710)])
def x214:Obj:=(fR "_law_more" "_law_more" (top 54))
def x215:Obj:=(cO "_law_more" "_law_more" 704 705 706 251 3 0 0 3 (.ref 359) true 181 (.ref 360) .none (.ref 361) (.ref 362) (.ref 363) 711 251 712)
def x216:Obj:=(fO "_law_more" "_law_more" (top 54) (.str "law_pebbletoll_k26_whole_just_so_many" 551) (.ref 364))
def x217:Obj:=(tO #[(.str "web" 717),(.str "tolls" 718),(.str "laying" 719),(.str "wish" 720),(.str "r" 721),(.str "told" 722)])
def x218:Obj:=(fR "_law_right" "_law_right" (top 55))
def x219:Obj:=(cO "_law_right" "_law_right" 714 715 716 255 5 0 0 3 (.ref 366) true 181 (.ref 367) .none (.ref 368) (.ref 369) (.ref 370) 723 255 724)
def x220:Obj:=(fO "_law_right" "_law_right" (top 55) (.str "law_pebbletoll_k26_whole_just_so_many" 551) (.ref 371))
def x221:Obj:=(tO #[(.str "script" 729),(.str "many" 730),(.str "roads" 731),(.str "web" 732),(.str "tolls" 733),(.str "bound" 734),(.str "laying" 735),(.str "wish" 736),(.str "met" 737),(.str "r" 738)])
def x222:Obj:=(fR "law" "law" (top 56))
def x223:Obj:=(cO "law" "law" 726 727 728 264 1 0 0 3 (.ref 373) true 181 (.ref 374) .none (.ref 375) (.ref 376) (.ref 377) 739 264 740)
def x224:Obj:=(fO "law" "law" (top 56) (.str "law_pebbletoll_k26_whole_just_so_many" 551) (.ref 378))
noncomputable def h1 (P:Params):Heap:=.mk (.mk (boot_o_0 P :: boot_o_1 P :: boot_o_2 P :: x123 P :: boot_o_4 P :: boot_o_5 P :: boot_o_6 P :: boot_o_7 P :: boot_o_8 P :: boot_o_9 P :: boot_o_10 P :: x0 :: x124 :: x2 :: x3 :: x6 :: x7 :: x8 P :: x0 :: x1 :: x9 :: x10 :: x0 :: x11 P :: x12 :: x13 :: x14 :: x15 :: x16 :: x7 :: x17 P :: x0 :: x1 :: x18 :: x19 :: x0 :: x20 P :: x21 :: x22 :: x23 :: x16 :: x7 :: x24 P :: x0 :: x1 :: x25 :: x26 :: x0 :: x27 P :: x28 :: x29 :: x30 :: x16 :: x7 :: x31 P :: x0 :: x1 :: x32 :: x33 :: x0 :: x34 P :: x35 :: x36 :: x37 :: x16 :: x7 :: x38 P :: x0 :: x1 :: x39 :: x40 :: x0 :: x41 P :: x42 :: x43 :: x44 :: x16 :: x7 :: x45 P :: x0 :: x1 :: x46 :: x47 :: x0 :: x48 P :: x49 :: x50 :: x51 :: x0 :: x7 :: x52 P :: x0 :: x53 :: x54 :: x55 :: x0 :: x1 :: x56 :: x57 :: x58 :: x59 :: x60 P :: x61 :: x62 :: x63 :: x64 :: x65 :: x0 :: x1 :: x66 :: x0 :: x67 :: x68 :: x69 :: x0 :: x1 :: x70 :: x0 :: x71 :: x72 :: x73 :: x0 :: x1 :: x74 :: x0 :: x75 :: x76 :: x77 :: x0 :: x1 :: x78 :: x0 :: x79 :: x80 :: x81 :: x0 :: x1 :: x82 :: x0 :: x83 :: x84 :: x85 :: x0 :: x1 :: x86 :: x0 :: x87 :: x88 :: x89 :: x0 :: x1 :: x90 :: x0 :: x91 :: x92 :: x93 :: x0 :: x1 :: x94 :: x0 :: x95 :: x96 :: x97 :: x0 :: x1 :: x98 :: x0 :: x99 :: x100 :: x101 :: x0 :: x1 :: x102 :: x0 :: x103 :: x104 :: x105 :: x0 :: x1 :: x106 :: x107 :: x108 :: x0 :: x1 :: x109 :: x0 :: x110 :: x111 :: x112 :: x0 :: x1 :: x113 :: x0 :: x114 :: x115 :: x116 :: x0 :: x1 :: x117 :: x118 :: x119 :: x0 :: x1 :: x120 :: x121 :: x122 :: x0 :: x1 :: x125 :: x0 :: x126 :: x127 :: x128 :: x0 :: x1 :: x129 :: x130 :: x131 :: x0 :: x1 :: x132 :: x0 :: x133 :: x134 :: x135 :: x0 :: x1 :: x136 :: x0 :: x137 :: x138 :: x139 :: x0 :: x1 :: x140 :: x0 :: x141 :: x142 :: x143 :: x0 :: x1 :: x144 :: x0 :: x145 :: x146 :: x147 :: x0 :: x1 :: x148 :: x0 :: x149 :: x150 :: x151 :: x0 :: x1 :: x152 :: x0 :: x153 :: x154 :: x155 :: x0 :: x1 :: x156 :: x157 :: x158 :: x0 :: x1 :: x159 :: x0 :: x160 :: x161 :: x162 :: x0 :: x1 :: x163 :: x0 :: x164 :: x165 :: x166 :: x0 :: x1 :: x167 :: x0 :: x168 :: x169 :: x170 :: x0 :: x1 :: x171 :: x0 :: x172 :: x173 :: x174 :: x0 :: x1 :: x175 :: x0 :: x176 :: x177 :: x178 :: x0 :: x1 :: x179 :: x0 :: x180 :: x181 :: x182 :: x0 :: x1 :: x183 :: x184 :: x185 :: x0 :: x1 :: x186 :: x0 :: x187 :: x188 :: x189 :: x0 :: x1 :: x190 :: x0 :: x191 :: x192 :: x193 :: x0 :: x1 :: x194 :: x0 :: x195 :: x196 :: x197 :: x0 :: x1 :: x198 :: x0 :: x199 :: x200 :: x201 :: x0 :: x1 :: x202 :: x0 :: x203 :: x204 :: x205 :: x0 :: x1 :: x206 :: x207 :: x208 :: x0 :: x1 :: x209 :: x0 :: x210 :: x211 :: x212 :: x0 :: x1 :: x213 :: x0 :: x214 :: x215 :: x216 :: x0 :: x1 :: x217 :: x0 :: x218 :: x219 :: x220 :: x0 :: x1 :: x221 :: x0 :: x222 :: x223 :: x224 :: [])) (.mk [] [] [] 0 [] [] false #[] [] 0 false false false 0 [2000,10,10] false 0 true [] [] 0 false)
theorem run1 (w:World) (os:OsState):segRun treeTable PySem.Challenge.pw_pebbletoll_k26_whole_just_so_many w 11 (some (.ref 6)) 1 859 (Shared.mk (h0 w.params) (.mk []) (.mk 0 0 0 0) 462 os) (piecesOf st1 env cE (.mk 110 0 112 85) [topFrame (.mk 0 0 0 0)])=some (.next,(Shared.mk (h1 w.params) (.mk []) (.mk 0 0 0 0) 742 os),cE,(.mk 264 0 276 43)):=by kernel_rfl
noncomputable def hf (P:Params):Heap:=.mk (.mk (boot_o_0 P :: boot_o_1 P :: boot_o_2 P :: x123 P :: boot_o_4 P :: boot_o_5 P :: boot_o_6 P :: boot_o_7 P :: boot_o_8 P :: boot_o_9 P :: boot_o_10 P :: x0 :: x124 :: x2 :: x3 :: x6 :: x7 :: x8 P :: x0 :: x1 :: x9 :: x10 :: x0 :: x11 P :: x12 :: x13 :: x14 :: x15 :: x16 :: x7 :: x17 P :: x0 :: x1 :: x18 :: x19 :: x0 :: x20 P :: x21 :: x22 :: x23 :: x16 :: x7 :: x24 P :: x0 :: x1 :: x25 :: x26 :: x0 :: x27 P :: x28 :: x29 :: x30 :: x16 :: x7 :: x31 P :: x0 :: x1 :: x32 :: x33 :: x0 :: x34 P :: x35 :: x36 :: x37 :: x16 :: x7 :: x38 P :: x0 :: x1 :: x39 :: x40 :: x0 :: x41 P :: x42 :: x43 :: x44 :: x16 :: x7 :: x45 P :: x0 :: x1 :: x46 :: x47 :: x0 :: x48 P :: x49 :: x50 :: x51 :: x0 :: x7 :: x52 P :: x0 :: x53 :: x54 :: x55 :: x0 :: x1 :: x56 :: x57 :: x58 :: x59 :: x60 P :: x61 :: x62 :: x63 :: x64 :: x65 :: x0 :: x1 :: x66 :: x0 :: x67 :: x68 :: x69 :: x0 :: x1 :: x70 :: x0 :: x71 :: x72 :: x73 :: x0 :: x1 :: x74 :: x0 :: x75 :: x76 :: x77 :: x0 :: x1 :: x78 :: x0 :: x79 :: x80 :: x81 :: x0 :: x1 :: x82 :: x0 :: x83 :: x84 :: x85 :: x0 :: x1 :: x86 :: x0 :: x87 :: x88 :: x89 :: x0 :: x1 :: x90 :: x0 :: x91 :: x92 :: x93 :: x0 :: x1 :: x94 :: x0 :: x95 :: x96 :: x97 :: x0 :: x1 :: x98 :: x0 :: x99 :: x100 :: x101 :: x0 :: x1 :: x102 :: x0 :: x103 :: x104 :: x105 :: x0 :: x1 :: x106 :: x107 :: x108 :: x0 :: x1 :: x109 :: x0 :: x110 :: x111 :: x112 :: x0 :: x1 :: x113 :: x0 :: x114 :: x115 :: x116 :: x0 :: x1 :: x117 :: x118 :: x119 :: x0 :: x1 :: x120 :: x121 :: x122 :: x0 :: x1 :: x125 :: x0 :: x126 :: x127 :: x128 :: x0 :: x1 :: x129 :: x130 :: x131 :: x0 :: x1 :: x132 :: x0 :: x133 :: x134 :: x135 :: x0 :: x1 :: x136 :: x0 :: x137 :: x138 :: x139 :: x0 :: x1 :: x140 :: x0 :: x141 :: x142 :: x143 :: x0 :: x1 :: x144 :: x0 :: x145 :: x146 :: x147 :: x0 :: x1 :: x148 :: x0 :: x149 :: x150 :: x151 :: x0 :: x1 :: x152 :: x0 :: x153 :: x154 :: x155 :: x0 :: x1 :: x156 :: x157 :: x158 :: x0 :: x1 :: x159 :: x0 :: x160 :: x161 :: x162 :: x0 :: x1 :: x163 :: x0 :: x164 :: x165 :: x166 :: x0 :: x1 :: x167 :: x0 :: x168 :: x169 :: x170 :: x0 :: x1 :: x171 :: x0 :: x172 :: x173 :: x174 :: x0 :: x1 :: x175 :: x0 :: x176 :: x177 :: x178 :: x0 :: x1 :: x179 :: x0 :: x180 :: x181 :: x182 :: x0 :: x1 :: x183 :: x184 :: x185 :: x0 :: x1 :: x186 :: x0 :: x187 :: x188 :: x189 :: x0 :: x1 :: x190 :: x0 :: x191 :: x192 :: x193 :: x0 :: x1 :: x194 :: x0 :: x195 :: x196 :: x197 :: x0 :: x1 :: x198 :: x0 :: x199 :: x200 :: x201 :: x0 :: x1 :: x202 :: x0 :: x203 :: x204 :: x205 :: x0 :: x1 :: x206 :: x207 :: x208 :: x0 :: x1 :: x209 :: x0 :: x210 :: x211 :: x212 :: x0 :: x1 :: x213 :: x0 :: x214 :: x215 :: x216 :: x0 :: x1 :: x217 :: x0 :: x218 :: x219 :: x220 :: x0 :: x1 :: x221 :: x0 :: x222 :: x223 :: x224 :: [])) (.mk [] [] [] 0 [] [] false #[] [] 0 false false false 0 [2000,10,10] false 0 true [] [] 0 false)
theorem runf (w:World) (os:OsState):topRun treeTable PySem.Challenge.pw_pebbletoll_k26_whole_just_so_many w 11 (some (.ref 6)) 2 (Shared.mk (h1 w.params) (.mk []) (.mk 0 0 0 0) 742 os) (restOf [] env cE (.mk 264 0 276 43) [topFrame (.mk 0 0 0 0)])=some (Shared.mk (hf w.params) (.mk []) (.mk 0 0 0 0) 742 os):=by kernel_rfl
theorem run (w:World) (os:OsState):topRun treeTable PySem.Challenge.pw_pebbletoll_k26_whole_just_so_many w 11 (some (.ref 6)) (12 + (1 + (1993 + (859 + (2))))) (Shared.mk (boot_heap w.params) (.mk []) boot_drawn boot_toks os) (topStub PySem.Challenge.pw_pebbletoll_k26_whole_just_so_many)=some (Shared.mk (hf w.params) (.mk []) (.mk 0 0 0 0) 742 os):=go_top (runa w os) (piece_block (runb w os) (piece_app (run0 w os) (piece_app (run1 w os) (runf w os))))
theorem opn:∀ w:World,(fencedOpening treeTable PySem.Challenge.pw_pebbletoll_k26_whole_just_so_many w 5826).map (fun s=>(s.heap,s.gens,s.drawn,s.toks))=some (boot_heap w.params,Array.mk [],boot_drawn,boot_toks):=boot_open (by kernel_rfl) (by decide) fun s=>by kernel_rfl
theorem siz (w:World):((boot_heap w.params).isNs mainGlobals && (Array.mk ([]:List GenState)).size == 0,(boot_heap w.params).objs.size,(boot_heap w.params).nsMap mainGlobals "__annotations__")=(true,11,(some (.ref 6))):=by kernel_rfl
noncomputable def KK:Params→Frag:=fun P =>
 (nat_lit 2,boot_o_2 P) ::
 (nat_lit 3,x123 P) ::
 (nat_lit 15,x6) ::
 (nat_lit 22,x0) ::
 (nat_lit 23,x11 P) ::
 (nat_lit 24,x12) ::
 (nat_lit 25,x13) ::
 (nat_lit 28,x16) ::
 (nat_lit 35,x0) ::
 (nat_lit 36,x20 P) ::
 (nat_lit 37,x21) ::
 (nat_lit 40,x16) ::
 (nat_lit 47,x0) ::
 (nat_lit 48,x27 P) ::
 (nat_lit 49,x28) ::
 (nat_lit 52,x16) ::
 (nat_lit 59,x0) ::
 (nat_lit 60,x34 P) ::
 (nat_lit 61,x35) ::
 (nat_lit 64,x16) ::
 (nat_lit 71,x0) ::
 (nat_lit 72,x41 P) ::
 (nat_lit 73,x42) ::
 (nat_lit 76,x16) ::
 (nat_lit 83,x0) ::
 (nat_lit 84,x48 P) ::
 (nat_lit 85,x49) ::
 (nat_lit 95,x0) ::
 (nat_lit 98,x57) ::
 (nat_lit 99,x58) ::
 (nat_lit 100,x59) ::
 (nat_lit 101,x60 P) ::
 (nat_lit 102,x61) ::
 (nat_lit 103,x62) ::
 (nat_lit 104,x63) ::
 (nat_lit 107,x0) ::
 (nat_lit 109,x66) ::
 (nat_lit 110,x0) ::
 (nat_lit 112,x68) ::
 (nat_lit 113,x69) ::
 (nat_lit 114,x0) ::
 (nat_lit 116,x70) ::
 (nat_lit 117,x0) ::
 (nat_lit 119,x72) ::
 (nat_lit 120,x73) ::
 (nat_lit 121,x0) ::
 (nat_lit 123,x74) ::
 (nat_lit 124,x0) ::
 (nat_lit 126,x76) ::
 (nat_lit 127,x77) ::
 (nat_lit 128,x0) ::
 (nat_lit 130,x78) ::
 (nat_lit 131,x0) ::
 (nat_lit 133,x80) ::
 (nat_lit 134,x81) ::
 (nat_lit 135,x0) ::
 (nat_lit 137,x82) ::
 (nat_lit 138,x0) ::
 (nat_lit 140,x84) ::
 (nat_lit 141,x85) ::
 (nat_lit 142,x0) ::
 (nat_lit 144,x86) ::
 (nat_lit 145,x0) ::
 (nat_lit 147,x88) ::
 (nat_lit 148,x89) ::
 (nat_lit 149,x0) ::
 (nat_lit 151,x90) ::
 (nat_lit 152,x0) ::
 (nat_lit 154,x92) ::
 (nat_lit 155,x93) ::
 (nat_lit 156,x0) ::
 (nat_lit 158,x94) ::
 (nat_lit 159,x0) ::
 (nat_lit 161,x96) ::
 (nat_lit 162,x97) ::
 (nat_lit 163,x0) ::
 (nat_lit 165,x98) ::
 (nat_lit 166,x0) ::
 (nat_lit 168,x100) ::
 (nat_lit 169,x101) ::
 (nat_lit 170,x0) ::
 (nat_lit 172,x102) ::
 (nat_lit 173,x0) ::
 (nat_lit 175,x104) ::
 (nat_lit 176,x105) ::
 (nat_lit 177,x0) ::
 (nat_lit 180,x107) ::
 (nat_lit 181,x108) ::
 (nat_lit 182,x0) ::
 (nat_lit 184,x109) ::
 (nat_lit 185,x0) ::
 (nat_lit 187,x111) ::
 (nat_lit 188,x112) ::
 (nat_lit 189,x0) ::
 (nat_lit 191,x113) ::
 (nat_lit 192,x0) ::
 (nat_lit 194,x115) ::
 (nat_lit 195,x116) ::
 (nat_lit 196,x0) ::
 (nat_lit 199,x118) ::
 (nat_lit 200,x119) ::
 (nat_lit 201,x0) ::
 (nat_lit 204,x121) ::
 (nat_lit 205,x122) ::
 (nat_lit 206,x0) ::
 (nat_lit 208,x125) ::
 (nat_lit 209,x0) ::
 (nat_lit 211,x127) ::
 (nat_lit 212,x128) ::
 (nat_lit 213,x0) ::
 (nat_lit 216,x130) ::
 (nat_lit 217,x131) ::
 (nat_lit 218,x0) ::
 (nat_lit 220,x132) ::
 (nat_lit 221,x0) ::
 (nat_lit 223,x134) ::
 (nat_lit 224,x135) ::
 (nat_lit 225,x0) ::
 (nat_lit 227,x136) ::
 (nat_lit 228,x0) ::
 (nat_lit 230,x138) ::
 (nat_lit 231,x139) ::
 (nat_lit 232,x0) ::
 (nat_lit 234,x140) ::
 (nat_lit 235,x0) ::
 (nat_lit 237,x142) ::
 (nat_lit 238,x143) ::
 (nat_lit 239,x0) ::
 (nat_lit 241,x144) ::
 (nat_lit 242,x0) ::
 (nat_lit 244,x146) ::
 (nat_lit 245,x147) ::
 (nat_lit 246,x0) ::
 (nat_lit 248,x148) ::
 (nat_lit 249,x0) ::
 (nat_lit 251,x150) ::
 (nat_lit 252,x151) ::
 (nat_lit 253,x0) ::
 (nat_lit 255,x152) ::
 (nat_lit 256,x0) ::
 (nat_lit 258,x154) ::
 (nat_lit 259,x155) ::
 (nat_lit 260,x0) ::
 (nat_lit 263,x157) ::
 (nat_lit 264,x158) ::
 (nat_lit 265,x0) ::
 (nat_lit 267,x159) ::
 (nat_lit 268,x0) ::
 (nat_lit 270,x161) ::
 (nat_lit 271,x162) ::
 (nat_lit 272,x0) ::
 (nat_lit 274,x163) ::
 (nat_lit 275,x0) ::
 (nat_lit 277,x165) ::
 (nat_lit 278,x166) ::
 (nat_lit 279,x0) ::
 (nat_lit 281,x167) ::
 (nat_lit 282,x0) ::
 (nat_lit 284,x169) ::
 (nat_lit 285,x170) ::
 (nat_lit 286,x0) ::
 (nat_lit 288,x171) ::
 (nat_lit 289,x0) ::
 (nat_lit 291,x173) ::
 (nat_lit 292,x174) ::
 (nat_lit 293,x0) ::
 (nat_lit 295,x175) ::
 (nat_lit 296,x0) ::
 (nat_lit 298,x177) ::
 (nat_lit 299,x178) ::
 (nat_lit 300,x0) ::
 (nat_lit 302,x179) ::
 (nat_lit 303,x0) ::
 (nat_lit 305,x181) ::
 (nat_lit 306,x182) ::
 (nat_lit 307,x0) ::
 (nat_lit 310,x184) ::
 (nat_lit 311,x185) ::
 (nat_lit 312,x0) ::
 (nat_lit 314,x186) ::
 (nat_lit 315,x0) ::
 (nat_lit 317,x188) ::
 (nat_lit 318,x189) ::
 (nat_lit 319,x0) ::
 (nat_lit 321,x190) ::
 (nat_lit 322,x0) ::
 (nat_lit 324,x192) ::
 (nat_lit 325,x193) ::
 (nat_lit 326,x0) ::
 (nat_lit 328,x194) ::
 (nat_lit 329,x0) ::
 (nat_lit 331,x196) ::
 (nat_lit 332,x197) ::
 (nat_lit 333,x0) ::
 (nat_lit 335,x198) ::
 (nat_lit 336,x0) ::
 (nat_lit 338,x200) ::
 (nat_lit 339,x201) ::
 (nat_lit 340,x0) ::
 (nat_lit 342,x202) ::
 (nat_lit 343,x0) ::
 (nat_lit 345,x204) ::
 (nat_lit 346,x205) ::
 (nat_lit 347,x0) ::
 (nat_lit 350,x207) ::
 (nat_lit 351,x208) ::
 (nat_lit 352,x0) ::
 (nat_lit 354,x209) ::
 (nat_lit 355,x0) ::
 (nat_lit 357,x211) ::
 (nat_lit 358,x212) ::
 (nat_lit 359,x0) ::
 (nat_lit 361,x213) ::
 (nat_lit 362,x0) ::
 (nat_lit 364,x215) ::
 (nat_lit 365,x216) ::
 (nat_lit 366,x0) ::
 (nat_lit 368,x217) ::
 (nat_lit 369,x0) ::
 (nat_lit 371,x219) ::
 (nat_lit 372,x220) ::
 (nat_lit 373,x0) ::
 (nat_lit 375,x221) ::
 (nat_lit 376,x0) ::
 (nat_lit 378,x223) ::
 (nat_lit 379,x224) :: []
abbrev qq:Program:=PySem.W.view PySem.Challenge.pw_pebbletoll_k26_whole_just_so_many [1,2,3,4,5,6,8,9,10,11,12,13,14,15,16,17,18,19,20,22,23,25,26,27,28,30,31,32,33,34,35,36,37,38,40,41,42,43,44,45,46,47,48,49,50,51,52,53,54,55,56]
abbrev asK:List Addr:=[2,3,15,22,23,24,25,28,35,36,37,40,47,48,49,52,59,60,61,64,71,72,73,76,83,84,85,95,98,99,100,101,102,103,104,107,109,110,112,113,114,116,117,119,120,121,123,124,126,127,128,130,131,133,134,135,137,138,140,141,142,144,145,147,148,149,151,152,154,155,156,158,159,161,162,163,165,166,168,169,170,172,173,175,176,177,180,181,182,184,185,187,188,189,191,192,194,195,196,199,200,201,204,205,206,208,209,211,212,213,216,217,218,220,221,223,224,225,227,228,230,231,232,234,235,237,238,239,241,242,244,245,246,248,249,251,252,253,255,256,258,259,260,263,264,265,267,268,270,271,272,274,275,277,278,279,281,282,284,285,286,288,289,291,292,293,295,296,298,299,300,302,303,305,306,307,310,311,312,314,315,317,318,319,321,322,324,325,326,328,329,331,332,333,335,336,338,339,340,342,343,345,346,347,350,351,352,354,355,357,358,359,361,362,364,365,366,368,369,371,372,373,375,376,378,379]
theorem asK_eq:∀ P,asK=(KK P).map (·.1):=fun _=>by kernel_rfl
theorem looks (w:World):(fun os=>((staticsOk (importedModules PySem.Challenge.pw_pebbletoll_k26_whole_just_so_many.main.body) (boot_heap w.params) (hf w.params) && namesBound PySem.Challenge.pw_pebbletoll_k26_whole_just_so_many (hf w.params) && gensDone (Shared.mk (Hd.hf w.params) (.mk []) (.mk 0 0 0 0) 742 os) && laidKept (boot_heap w.params) (hf w.params)),openSeen qq [] (importedModules PySem.Challenge.pw_pebbletoll_k26_whole_just_so_many.main.body) (fun s=>PySem.W.xlAt Hd.qq [] s && PySem.W.recOk (PySem.W.RowW.records (PySem.W.OpenRow.toRowW (PySem.Challenge.rw_pebbletoll_k26_whole_just_so_many).row)) s) true (Shared.mk (Hd.hf w.params) (.mk []) (.mk 0 0 0 0) 742 os),Hook.obs (PySem.W.kHook Hd.KK Hd.asK Hd.asK_eq) (Shared.mk (Hd.hf w.params) (.mk []) (.mk 0 0 0 0) 742 os)))=fun _=>(true,openGood qq [],Hook.val (PySem.W.kHook Hd.KK Hd.asK Hd.asK_eq) w):=by kernel_rfl
theorem left:PySem.W.LeftO (PySem.Challenge.rw_pebbletoll_k26_whole_just_so_many).row.prog qq [] (fun s=>PySem.W.xlAt Hd.qq [] s && PySem.W.recOk (PySem.W.RowW.records (PySem.W.OpenRow.toRowW (PySem.Challenge.rw_pebbletoll_k26_whole_just_so_many).row)) s) (PySem.W.Hook.obs (PySem.W.kHook Hd.KK Hd.asK Hd.asK_eq)) (PySem.W.Hook.val (PySem.W.kHook Hd.KK Hd.asK Hd.asK_eq)) 5826:=LeftO.of_pieces opn siz run (by decide) looks
end Hd
set_option Elab.async false
set_option linter.all false
set_option maxRecDepth 100000
namespace L2
open PySem PySem.Spec PyProof.Rows
abbrev Key:=Sum Int Str
def keyIs:Key→Value→Bool
 | .inl k,v=>Value.isInt k v
 | .inr x,v=>Value.isStrOf x v
def keyH (w:World):Key→Int
 | .inl k=>hashInt k
 | .inr x=>hashStr w x
theorem keyIs_shape:∀ {k:Key} {v:Value},keyIs k v=true→(∃ i t,k=Sum.inl i∧v=Value.int i t)∨(∃ x t,k=Sum.inr x∧v=Value.str x t)
 | .inl i,v,h=>by
   obtain ⟨t,e⟩:=Value.isInt_shape (k:=i) (v:=v) h
   exact .inl ⟨i,t,rfl,e⟩
 | .inr x,v,h=>by
   obtain ⟨t,e⟩:=Value.isStrOf_shape (x:=x) (v:=v) h
   exact .inr ⟨x,t,rfl,e⟩
theorem keyIs_int (i:Int) (t:Tok):keyIs (.inl i) (.int i t)=true:=by simp [keyIs,Value.isInt]
theorem keyIs_str (x:Str) (t:Tok):keyIs (.inr x) (.str x t)=true:=by simp [keyIs,Value.isStrOf]
theorem key_ll (a b:Int):decide ((Sum.inl a:Key)=Sum.inl b)=(a == b):=by
 by_cases e:a=b
 · subst e; simp
 · have h:¬ (Sum.inl a:Key)=Sum.inl b:=fun q=>e (Sum.inl.inj q)
   rw [decide_eq_false h]
   exact (beq_eq_false_iff_ne.mpr e).symm
theorem key_rr (a b:Str):decide ((Sum.inr a:Key)=Sum.inr b)=decide (a=b):=by
 by_cases e:a=b
 · subst e; simp
 · have h:¬ (Sum.inr a:Key)=Sum.inr b:=fun q=>e (Sum.inr.inj q)
   rw [decide_eq_false h,decide_eq_false e]
theorem key_lr (a:Int) (b:Str):decide ((Sum.inl a:Key)=Sum.inr b)=false:=decide_eq_false (fun q=>nomatch q)
theorem key_rl (a:Str) (b:Int):decide ((Sum.inr a:Key)=Sum.inl b)=false:=decide_eq_false (fun q=>nomatch q)
def mixKind (prog:Program) (w:World):PySem.KeyKind prog w Key where
 is:=keyIs
 hash:=keyH w
 inj:=fun v a b ha hb=>by
   rcases keyIs_shape ha with ⟨i,t,rfl,rfl⟩ | ⟨x,t,rfl,rfl⟩
   · rcases keyIs_shape hb with ⟨j,u,rfl,e⟩ | ⟨y,u,rfl,e⟩
     · injection e with e1 _; rw [e1]
     · exact nomatch e
   · rcases keyIs_shape hb with ⟨j,u,rfl,e⟩ | ⟨y,u,rfl,e⟩
     · exact nomatch e
     · injection e with e1 _; rw [e1]
 byValue:=fun k v h=>by
   rcases keyIs_shape h with ⟨i,t,rfl,rfl⟩ | ⟨x,t,rfl,rfl⟩ <;> rfl
 pyHash:=fun hv h=>by
   rcases keyIs_shape hv with ⟨i,t,rfl,rfl⟩ | ⟨x,t,rfl,rfl⟩
   · exact wpAny_pyHash_int h
   · exact wpAny_pyHash_str h
 eqBool:=fun hu hv h=>by
   rcases keyIs_shape hu with ⟨i,t,rfl,rfl⟩ | ⟨x,t,rfl,rfl⟩
   · rcases keyIs_shape hv with ⟨j,u,rfl,rfl⟩ | ⟨y,u,rfl,rfl⟩
     · rw [key_ll] at h; exact wpAny_eqBool_int h
     · rw [key_lr] at h; exact SeqAt.EqAt.int_str i t y u _ _ _ _ h
   · rcases keyIs_shape hv with ⟨j,u,rfl,rfl⟩ | ⟨y,u,rfl,rfl⟩
     · rw [key_rl] at h; exact SeqAt.EqAt.str_int x t j u _ _ _ _ h
     · rw [key_rr] at h; exact wpAny_eqBool_str h
 «strs»:=fun k x t v h=>by
   rcases keyIs_shape h with ⟨i,u,rfl,e⟩ | ⟨y,u,rfl,e⟩
   · exact nomatch e
   · injection e with e1 _
     subst e1
     cases v <;> rfl
theorem mixKind_int (prog:Program) (w:World) (i:Int) (t:Tok):(mixKind prog w).is (.inl i) (.int i t)=true:=keyIs_int i t
theorem mixKind_str (prog:Program) (w:World) (x:Str) (t:Tok):(mixKind prog w).is (.inr x) (.str x t)=true:=keyIs_str x t
end L2
namespace L2
open PySem PySem.Spec PyProof.Rows
inductive V where
 | non | bl (b:Bool) | int (i:Int) | str (x:Str) | byt (b:Array UInt8) | flt (b:UInt64) | ref (a:Addr) | ty (n:String)
 deriving DecidableEq
def RelV:V→Value→Prop
 | .non,u=>u=Value.none
 | .bl b,u=>u=Value.bool b
 | .int i,u=>∃ t,u=Value.int i t
 | .str x,u=>∃ t,u=Value.str x t
 | .byt b,u=>∃ t,u=Value.bytes b t
 | .flt b,u=>∃ t,u=Value.float b t
 | .ref a,u=>u=Value.ref a
 | .ty n,u=>u=Value.type n
abbrev Vals:List V→List Value→Prop:=Paired RelV
theorem Vals.length {xs:List V} {us:List Value} (r:Vals xs us):xs.length=us.length:=Paired.length r
theorem Vals.get:∀ {xs:List V} {us:List Value} {i:Nat} {x:V},Vals xs us→xs[i]?=some x→∃ u,us[i]?=some u∧RelV x u
 | _,_,_,_,.nil,e=>by simp at e
 | _,_,0,_,.cons r _,e=>by simp at e; subst e; exact ⟨_,rfl,r⟩
 | _,_,i + 1,x,.cons _ t,e=>by
   obtain ⟨u,h1,h2⟩:=Vals.get (i:=i) (x:=x) t (by simpa using e)
   exact ⟨u,by simpa using h1,h2⟩
theorem Vals.set {x:V} {u:Value} (r:RelV x u):∀ {xs:List V} {us:List Value} (i:Nat),Vals xs us→Vals (xs.set i x) (us.set i u)
 | _,_,_,.nil=>.nil
 | _,_,0,.cons _ t=>.cons r t
 | _,_,i + 1,.cons q t=>.cons q (Vals.set r i t)
theorem Vals.append:∀ {xs ys:List V} {us ws:List Value},Vals xs us→Vals ys ws→Vals (xs ++ ys) (us ++ ws)
 | _,_,_,_,.nil,s=>s
 | _,_,_,_,.cons r t,s=>.cons r (Vals.append t s)
theorem Vals.take:∀ {xs:List V} {us:List Value} (n:Nat),Vals xs us→Vals (xs.take n) (us.take n)
 | _,_,0,_=>.nil
 | _,_,_ + 1,.nil=>.nil
 | _,_,n + 1,.cons r t=>.cons r (Vals.take n t)
theorem Vals.drop:∀ {xs:List V} {us:List Value} (n:Nat),Vals xs us→Vals (xs.drop n) (us.drop n)
 | _,_,0,r=>r
 | _,_,_ + 1,.nil=>.nil
 | _,_,n + 1,.cons _ t=>Vals.drop n t
def RelO:Option V→Option Value→Prop
 | some v,some u=>RelV v u
 | none,none=>True
 | _,_=>False
def KV {κ:Type}:List (κ × V)→List (κ × Value)→Prop:=Paired fun (p:κ × V) (q:κ × Value)=>p.1=q.1∧RelV p.2 q.2
def kV:Key→V
 | .inl i=>.int i
 | .inr x=>.str x
inductive HO where
 /-- a list -/
 | lst (xs:List V)
 /-- a tuple (never changes) -/
 | tup (xs:List V)
 /-- a dict whose keys are ints and texts; one whose keys are tuples of ints and texts (the empty one is both) -/
 | dK (kvs:List (Key × V)) | dT (kvs:List (List Key × V))
 /-- a set of ints: its members,its size -/
 | set (S:Int→Bool) (n:Nat)
 /-- an instance of the class at C,its dict at dx,its attributes -/
 | ins (C dx:Addr) (fs:List (Str × V))
 /-- the dict of the instance at x -/
 | own (x:Addr)
 /-- the dict of an exception -/
 | xd (fs:List (Str × V))
 /-- a bound method,f of x -/
 | met (f x:Addr)
 /-- a range object lo,lo + 1,.. below hi -/
 | rng (lo hi:Int)
 /-- a thing that is known to the object (the script; a dict while a loop walks it): read,never written while it is so -/
 | frz (o:Obj) (u:HO)
 /-- a code object's table -/
 | tbl (ps:Array Value)
 /-- any other thing,by what is true of its one object (a def of one's own: SetO a S n:=HO.ext fun h=>..) -/
 | ext (φ:Heap→Prop)
abbrev Hp:=Addr→Option HO
def upd (H:Hp) (a:Addr) (o:HO):Hp:=fun b=>if b=a then some o else H b
theorem upd_same {H:Hp} {a:Addr} {o:HO}:upd H a o a=some o:=by unfold upd; rw [if_pos rfl]
theorem upd_ne {H:Hp} {a b:Addr} {o:HO} (h:b≠a):upd H a o b=H b:=by unfold upd; rw [if_neg h]
theorem upd_upd {H:Hp} {a:Addr} {o u:HO}:upd (upd H a o) a u=upd H a u:=by
 funext b; unfold upd; split <;> rfl
theorem ne_of {H:Hp} {a b:Addr} {o u:HO} (h:H a=some o) (h':H b=some u) (d:o≠u):a≠b:=by
 intro e; subst e; rw [h] at h'; exact d (Option.some.inj h')
theorem ne_of_none {H:Hp} {a b:Addr} {o:HO} (h:H a=some o) (h':H b=none):a≠b:=by
 intro e; subst e; rw [h] at h'; cases h'
section
variable (P:Program) (w:World)
def ObjOk (H:Hp) (h:Heap) (a:Addr):HO→Prop
 | .lst xs=>xs.length≤sizeLine∧∃ (its:List Value) (n:Nat),Vals xs its∧h.get? a=some { cls:=.type "list",data:=.seq its.toArray n }
 | .tup xs=>xs.length≤sizeLine∧∃ its:List Value,Vals xs its∧IsTup h a its.toArray
 | .dK kvs=>kvs.length≤sizeLine∧(a == sysModules)=false∧∃ vs,KV kvs vs∧h.DictOf (mixKind P w) a vs
 | .dT kvs=>kvs.length≤sizeLine∧(a == sysModules)=false∧∃ xs:List (List Key × Addr × Value),
     Paired (fun (p:List Key × V) (q:List Key × Addr × Value)=>p.1=q.1∧H q.2.1=some (.tup (p.1.map kV))∧RelV p.2 q.2.2) kvs xs ∧
     ∃ o es ep,h.get? a=some o∧o.ExactDict∧o.data=.dict es ep∧es.toList=xs.map (entryOfKey (tupleKind (mixKind P w)))∧(xs.map (·.1)).Nodup
 | .set S n=>h.SetOf (intKind P w) a S n
 | .ins C dx fs=>H dx=some (.own a)∧fs.length≤1000∧dx≠a∧h.get? a=some (PySem.W.instObj C dx) ∧
     ∃ mA,h.Ns1 dx mA∧(∀ f,RelO (fs.lookup f) (mA f))∧PySem.Within mA (fs.map (·.1))
 | .own _=>∃ o,h.get? a=some o
 | .xd fs=>∃ mA,h.Ns1 a mA∧∀ f,RelO (fs.lookup f) (mA f)
 | .rng lo hi=>∃ t u v,h.get? a=some { cls:=.type "range",data:=.fields #[.int lo t,.int hi u,.int 1 v] }
 | .frz o u=>h.get? a=some o∧ObjOk H h a u
 | .tbl ps=>h.get? a=some { cls:=.none,data:=.fields ps }
 | .met f x=>h.get? a=some (PySem.W.methodObj (.ref f) (.ref x))
 | .ext φ=>φ h∧(∃ o,h.get? a=some o)∧∀ h1 h2:Heap,φ h1→(∀ o,h1.get? a=some o→h2.get? a=some o)→φ h2
def HOk (H:Hp) (h:Heap):Prop:=∀ a o,H a=some o→ObjOk P w H h a o
end
section
variable {P:Program} {w:World} {H H':Hp} {h h':Heap} {a:Addr} {o:HO}
theorem ObjOk.lt (x:ObjOk P w H h a o):a < h.objs.size:=by
 cases o with
 | lst xs=>obtain ⟨_,_,_,_,e⟩:=x; exact Heap.lt_size e
 | tup xs=>obtain ⟨_,_,_,p⟩:=x; exact p.lt
 | dK kvs=>obtain ⟨_,_,_,_,o,_,_,e,_⟩:=x; exact Heap.lt_size e
 | dT kvs=>obtain ⟨_,_,_,_,o,_,_,e,_⟩:=x; exact Heap.lt_size e
 | set S n=>obtain ⟨o,_,_,_,e,_⟩:=x; exact Heap.lt_size e
 | ins C dx fs=>obtain ⟨_,_,_,e,_⟩:=x; exact Heap.lt_size e
 | own y=>obtain ⟨_,e⟩:=x; exact Heap.lt_size e
 | xd fs=>obtain ⟨_,⟨_,_,_,e,_⟩,_⟩:=x; exact Heap.lt_size e
 | rng lo hi=>obtain ⟨_,_,_,e⟩:=x; exact Heap.lt_size e
 | frz ob u=>obtain ⟨e,_⟩:=x; exact Heap.lt_size e
 | tbl ps=>exact Heap.lt_size (show h.get? a=some _ from x)
 | met f y=>exact Heap.lt_size (show h.get? a=some _ from x)
 | ext φ=>obtain ⟨_,⟨_,e⟩,_⟩:=x; exact Heap.lt_size e
theorem Paired.mapP {α β:Type} {F G:α→β→Prop}:∀ {l₁:List α} {l₂:List β},Paired F l₁ l₂→(∀ a b,F a b→G a b)→Paired G l₁ l₂
 | _,_,.nil,_=>.nil
 | _,_,.cons r t,f=>.cons (f _ _ r) (Paired.mapP t f)
theorem Paired.imp' {α β:Type} {F G:α→β→Prop} (f:∀ a b,F a b→G a b) {l₁:List α} {l₂:List β} (r:Paired F l₁ l₂):Paired G l₁ l₂:=Paired.mapP r f
theorem ObjOk.stay (x:ObjOk P w H h a o) (k:∀ b u,(b=a∨H b=some (.own a))→h.get? b=some u→h'.get? b=some u)
   (ho:∀ b,H b=some (.own a)→H' b=some (.own a)) (ht:∀ b xs,H b=some (.tup xs)→H' b=some (.tup xs)):ObjOk P w H' h' a o:=by
 induction o with
 | lst xs=>obtain ⟨z,its,n,r,e⟩:=x; exact ⟨z,its,n,r,k _ _ (.inl rfl) e⟩
 | tup xs=>obtain ⟨z,its,r,ob,e,c⟩:=x; exact ⟨z,its,r,ob,k _ _ (.inl rfl) e,c⟩
 | dK kvs=>obtain ⟨z,y,vs,r,ob,es,ep,e,c⟩:=x; exact ⟨z,y,vs,r,ob,es,ep,k _ _ (.inl rfl) e,c⟩
 | dT kvs =>
   obtain ⟨z,y,xs,r,ob,es,ep,e,c⟩:=x
   exact ⟨z,y,xs,Paired.mapP r fun p q z=>⟨z.1,ht _ _ z.2.1,z.2.2⟩,ob,es,ep,k _ _ (.inl rfl) e,c⟩
 | set S n=>obtain ⟨ob,es,ep,t,e,c⟩:=x; exact ⟨ob,es,ep,t,k _ _ (.inl rfl) e,c⟩
 | ins C dx fs =>
   obtain ⟨d,z,ne,e,mA,⟨od,es,ep,e2,c⟩,r⟩:=x
   exact ⟨ho _ d,z,ne,k _ _ (.inl rfl) e,mA,⟨od,es,ep,k _ _ (.inr d) e2,c⟩,r⟩
 | own y=>obtain ⟨ob,e⟩:=x; exact ⟨ob,k _ _ (.inl rfl) e⟩
 | xd fs=>obtain ⟨mA,⟨od,es,ep,e,c⟩,r⟩:=x; exact ⟨mA,⟨od,es,ep,k _ _ (.inl rfl) e,c⟩,r⟩
 | rng lo hi=>obtain ⟨t,u,v,e⟩:=x; exact ⟨t,u,v,k _ _ (.inl rfl) e⟩
 | frz ob u ih=>obtain ⟨e,q⟩:=x; exact ⟨k _ _ (.inl rfl) e,ih q⟩
 | tbl ps =>
   have e:h.get? a=some { cls:=.none,data:=.fields ps }:=x
   show h'.get? a=some { cls:=.none,data:=.fields ps }
   exact k a _ (.inl rfl) e
 | met f y =>
   have e:h.get? a=some (PySem.W.methodObj (.ref f) (.ref y)):=x
   show h'.get? a=some (PySem.W.methodObj (.ref f) (.ref y))
   exact k a _ (.inl rfl) e
 | ext φ=>obtain ⟨p,⟨o,e⟩,st⟩:=x; exact ⟨st _ _ p fun o q=>k _ _ (.inl rfl) q,⟨o,k _ _ (.inl rfl) e⟩,st⟩
theorem HOk.lt (x:HOk P w H h) (e:H a=some o):a < h.objs.size:=(x a o e).lt
theorem HOk.fresh (x:HOk P w H h) (e:h.objs.size≤a):H a=none:=by
 cases q:H a with
 | none=>rfl
 | some u=>exact absurd (Nat.lt_of_lt_of_le (x.lt q) e) (Nat.lt_irrefl _)
theorem HOk.kept (x:HOk P w H h) (k:∀ b u,h.get? b=some u→h'.get? b=some u):HOk P w H h':=fun a o e =>
 (x a o e).stay (fun b u _ q=>k b u q) (fun _ q=>q) fun _ _ q=>q
theorem HOk.laid (x:HOk P w H h) (k:∀ b u,h.get? b=some u→h'.get? b=some u) (hp:h.objs.size≤a) (new:ObjOk P w (upd H a o) h' a o):HOk P w (upd H a o) h':=fun b u e=>by
 have hn:=x.fresh hp
 by_cases hb:b=a
 · subst hb; rw [upd_same] at e; cases e; exact new
 · rw [upd_ne hb] at e
   exact (x b u e).stay (fun c v _ q=>k c v q) (fun c q=>by rw [upd_ne (ne_of_none q hn)]; exact q) fun c xs q=>by rw [upd_ne (ne_of_none q hn)]; exact q
end
def Rd (H:Hp) (a:Addr) (u:HO):Prop:=H a=some u∨∃ o,H a=some (.frz o u)
theorem Rd.ok {P:Program} {w:World} {H:Hp} {h:Heap} {a:Addr} {u:HO} (r:Rd H a u) (x:HOk P w H h):ObjOk P w H h a u:=by
 rcases r with r | ⟨o,r⟩
 · exact x a u r
 · obtain ⟨_,q⟩:=x a _ r
   exact q
def Mut:Option HO→Prop
 | some (.lst _)=>True
 | some (.dK _)=>True
 | some (.dT _)=>True
 | some (.set _ _)=>True
 | some (.ins _ _ _)=>True
 | some (.ext _)=>True
 | _=>False
section
variable {P:Program} {w:World} {H:Hp} {h h':Heap} {x e:Addr} {o':HO}
theorem HOk.write (ok:HOk P w H h) (mu:Mut (H x)) (he:e=x∨H e=some (.own x)) (k:∀ b u,b≠e→h.get? b=some u→h'.get? b=some u) (heo:∃ u,h'.get? e=some u)
   (new:ObjOk P w (upd H x o') h' x o'):HOk P w (upd H x o') h':=fun b u q=>by
 have nown:∀ c y,H c=some (.own y)→c≠x:=fun c y r z=>by subst z; rw [r] at mu; exact mu
 have ntup:∀ c xs,H c=some (.tup xs)→c≠x:=fun c xs r z=>by subst z; rw [r] at mu; exact mu
 by_cases hb:b=x
 · subst hb; rw [upd_same] at q; cases q; exact new
 · rw [upd_ne hb] at q
   by_cases hbe:b=e
   · have q':H b=some (.own x):=by
       rcases he with z | z
       · exact absurd (hbe.trans z) hb
       · rw [hbe]; exact z
     rw [q] at q'; cases q'
     obtain ⟨v,hv⟩:=heo
     exact ⟨v,by rw [hbe]; exact hv⟩
   · refine (ok b u q).stay (fun c v hc r=>k c v ?_ r) (fun c r=>by rw [upd_ne (nown c b r)]; exact r) fun c xs r=>by rw [upd_ne (ntup c xs r)]; exact r
     rcases hc with rfl | hc
     · exact hbe
     · rintro rfl
       rcases he with z | z
       · exact nown c b hc z
       · rw [hc] at z; cases z; exact hb rfl
end
structure Un (fs ex:List Addr) (H H':Hp) (h h':Heap):Prop where
 keep:∀ b o,h.get? b=some o→H b=none→b ∉ fs→b ∉ ex→h'.get? b=some o
 slot:∀ b o,h.get? b=some o→H b=none→b∈fs→b ∉ ex→∃ sl,h'.get? b=some { o with slots:=sl }
 free:∀ b o,h.get? b=some o→H b=none→b ∉ ex→H' b=none
 there:∀ b o,h.get? b=some o→b ∉ ex→∃ o',h'.get? b=some o'
 tups:∀ b xs,H b=some (.tup xs)→H' b=some (.tup xs)
 frzs:∀ b o u,H b=some (.frz o u)→H' b=some (.frz o u)
 tbls:∀ b ps,H b=some (.tbl ps)→∃ more,H' b=some (.tbl (ps ++ more))
section
variable {fs fs' ex ex':List Addr} {H H1 H2:Hp} {h h1 h2 h':Heap} {a x e:Addr} {o:HO}
theorem Un.any (u:Un fs ex H H1 h h1) {b:Addr} {ob:Obj} (q:h.get? b=some ob) (n:H b=none) (hx:b ∉ ex):∃ sl,h1.get? b=some { ob with slots:=sl }:=by
 by_cases hb:b∈fs
 · exact u.slot b ob q n hb hx
 · exact ⟨ob.slots,u.keep b ob q n hb hx⟩
theorem Un.kept (k:∀ b u,h.get? b=some u→h'.get? b=some u):Un fs ex H H h h' :=
 ⟨fun b ob q _ _ _=>k b ob q,fun b ob q _ _ _=>⟨ob.slots,k b ob q⟩,fun _ _ _ n _=>n,fun b ob q _=>⟨ob,k b ob q⟩,fun _ _ q=>q,fun _ _ _ q=>q,fun _ ps q=>⟨#[],by rw [q]; simp⟩⟩
theorem Un.refl:Un fs ex H H h h:=Un.kept fun _ _ q=>q
theorem Un.laid (k:∀ b u,h.get? b=some u→h'.get? b=some u) (hp:h.objs.size≤a) (hn:H a=none):Un fs ex H (upd H a o) h h' where
 keep:=fun b u q _ _ _=>k b u q
 slot:=fun b u q _ _ _=>⟨u.slots,k b u q⟩
 free:=fun b u q n _=>by rw [upd_ne (Nat.ne_of_lt (Nat.lt_of_lt_of_le (Heap.lt_size q) hp))]; exact n
 there:=fun b u q _=>⟨u,k b u q⟩
 tups:=fun b xs q=>by rw [upd_ne (ne_of_none q hn)]; exact q
 frzs:=fun b u xs q=>by rw [upd_ne (ne_of_none q hn)]; exact q
 tbls:=fun b ps q=>⟨#[],by rw [upd_ne (ne_of_none q hn),q]; simp⟩
theorem Un.write (mu:Mut (H x)) (he:e=x∨H e=some (.own x)) (k:∀ b u,b≠e→h.get? b=some u→h'.get? b=some u) (heo:∃ u,h'.get? e=some u):Un fs ex H (upd H x o) h h':=by
 have hx:∀ b,H b=none→b≠x:=fun b n z=>by subst z; rw [n] at mu; exact mu
 have hb:∀ b,H b=none→b≠e:=fun b n z=>by
   subst z
   rcases he with r | r
   · exact hx b n r
   · rw [n] at r; cases r
 have hm:∀ b u,H b=some u→¬ Mut (some u)→b≠x:=fun b u q nm z=>by subst z; rw [q] at mu; exact nm mu
 refine ⟨fun b u q n _ _=>k b u (hb b n) q,fun b u q n _ _=>⟨u.slots,k b u (hb b n) q⟩,fun b u q n _=>by rw [upd_ne (hx b n)]; exact n,fun b u q _=>?_,
   fun b xs q=>by rw [upd_ne (hm b _ q fun z=>z)]; exact q,fun b u xs q=>by rw [upd_ne (hm b _ q fun z=>z)]; exact q,fun b ps q=>⟨#[],by rw [upd_ne (hm b _ q fun z=>z),q]; simp⟩⟩
 by_cases hbe:b=e
 · subst hbe; exact heo
 · exact ⟨u,k b u hbe q⟩
end
def trk (h:Heap) (H:Hp):List Addr:=(List.range h.objs.size).filter fun a=>(H a).isSome
def hidT (h:Heap) (H:Hp):Heap:=PySem.W.hideAll h (trk h H)
theorem hidT_size (h:Heap) (H:Hp):(hidT h H).objs.size=h.objs.size:=PySem.W.hideAll_size _ _
theorem hidT_get {h:Heap} {H:Hp} {b:Addr} {o:Obj} (e:h.get? b=some o) (n:H b=none):(hidT h H).get? b=some o :=
 PySem.W.hideAll_get _ e fun hm=>by
   have q:(H b).isSome=true:=(List.mem_filter.mp hm).2
   rw [n] at q; simp at q
theorem of_hidT {h:Heap} {H:Hp} {b:Addr} {o:Obj} (e:(hidT h H).get? b=some o):h.get? b=some o∧H b=none:=by
 have e':h.get? b=some o:=PySem.W.of_hideAll (trk h H) e
 refine ⟨e',?_⟩
 cases q:H b with
 | none=>rfl
 | some x =>
   have hm:b∈trk h H:=List.mem_filter.mpr ⟨List.mem_range.mpr (Heap.lt_size e'),by simp [q]⟩
   have z:(hidT h H).get? b=none:=PySem.W.hideAll_none (trk h H) hm
   rw [z] at e; cases e
def allNews (g h:Heap) (L:Addr):List (Addr × Obj):=(List.range h.objs.size).filterMap fun a=>if a=L∨(g.get? a).isSome=true then none else (h.get? a).map fun o=>(a,o)
def rest (g h:Heap) (L d:Addr):List (Addr × Obj):=(allNews g h L).filter fun p=>decide (p.1≠d)
end L2
namespace L2
open PySem PySem.Spec PyProof.Rows
structure Mod (K:PySem.W.Frag) (mg:Str→Option Value) (base:Heap):Prop where
 kin:K.In base
 glob:base.Ns mainGlobals mg
 blt:∃ mb,base.Ns builtinsNs mb∧∀ x:Str,x≠"__name__"→mb x=bootBuiltins x
 nolimit:base.NoLimit
structure Cx where
 prog:Program
 w:World
 K:PySem.W.Frag
 mg:Str→Option Value
 base:Heap
 A:Around
 N:List Str
 s₀:Shared
 H₀:Hp
 env:Env
 outer:List Env
 stack:List Env
 ex:List Addr
 fn:Str→Bool
 calm:Bool
 pn:List (Addr × Obj)
 xe:Value→Shared→Prop
def frs (l:List Env):List Addr:=l.filterMap (·.frame)
abbrev Cx.fs (X:Cx):List Addr:=frs X.outer
def Vis (sc:Scope) (x:Str):Prop:=sc.names.lookup x=some .local∨sc.names.lookup x=some .cell∨sc.names.lookup x=some .free
def Loc (sc:Scope) (x:Str):Prop:=sc.names.lookup x=some .local∨sc.names.lookup x=some .cell
def Look (env:Env) (h:Heap) (m:Str→Option Value) (x:Str) (u:Value):Prop :=
 (env.kindOf x=some .local∧m x=some u)∨((env.kindOf x=some .cell∨env.kindOf x=some .free)∧∃ c,env.cells.lookup x=some c∧h.IsCell c (some u))
structure Cx.Ok (X:Cx):Prop where
 mod:Mod X.K X.mg X.base
 kind:X.env.scope.kind=.function
 glob:X.env.globals=mainGlobals
 blt:X.env.builtins=builtinsNs
 above:X.s₀.heap.objs.size≤X.env.locals
 inj:∀ x y c,X.env.cells.lookup x=some c→X.env.cells.lookup y=some c→x=y
 has:∀ x,(X.env.kindOf x=some .cell∨X.env.kindOf x=some .free)→∃ c,X.env.cells.lookup x=some c
 cab:∀ x c,X.fn x=true→X.env.cells.lookup x=some c→X.s₀.heap.objs.size≤c
 hd:X.calm=true→X.A.handled=none
 frames:X.A.frames=some X.stack
 stk:X.stack=X.outer∨(X.stack=X.env :: X.outer∧X.env.frame=some X.env.locals)
 exf:∀ b∈X.ex,b≠X.env.locals∧∀ x c,X.env.cells.lookup x=some c→c≠b
 bs:∀ b o,X.base.get? b=some o→X.s₀.heap.get? b=some o∧X.H₀ b=none
 bsz:X.base.objs.size≤X.s₀.heap.objs.size
 noex:∀ b o,X.base.get? b=some o→b ∉ X.ex
 exfs:∀ b∈X.ex,b ∉ X.fs
 funs:X.s₀.heap.FunFrames X.base X.outer
 frf:∀ b∈X.fs,X.H₀ b=none
structure Inv (X:Cx) (pins:List (Addr × Obj)) (σ:List (Option V)) (H:Hp) (s:Shared):Prop where
 ok:X.Ok
 os:s.os=X.s₀.os
 bare:AllBare s.gens
 base:Un X.fs X.ex X.H₀ H X.s₀.heap s.heap
 loc:∃ m,s.heap.Ns X.env.locals m∧∀ (i:Nat) (x:Str) (v:V),X.N[i]?=some x→σ[i]?=some (some v)→Vis X.env.scope x→∃ u,RelV v u∧Look X.env s.heap m x u
 cell:∀ x c,X.env.cells.lookup x=some c→∃ v,s.heap.IsCell c v
 free:H X.env.locals=none
 freeC:∀ x c,X.env.cells.lookup x=some c→H c=none
 pin:∀ p∈X.pn ++ pins,s.heap.get? p.1=some p.2∧H p.1=none∧p.1≠X.env.locals∧p.1 ∉ X.fs∧∀ v,p.2.data≠.cell v
 hok:HOk X.prog X.w H s.heap
 len:σ.length=X.N.length
section
variable {X:Cx} {pins:List (Addr × Obj)} {σ:List (Option V)} {H H':Hp} {s:Shared} {h':Heap}
theorem Cx.Ok.nofr (ok:X.Ok) {b:Addr} {o:Obj} (e:X.base.get? b=some o):b ∉ X.fs:=fun hb=>by
 have:=(ok.funs.mem hb).1
 rw [e] at this; cases this
theorem Inv.bs (I:Inv X pins σ H s):∀ b o,X.base.get? b=some o→s.heap.get? b=some o∧H b=none:=fun b o e =>
 ⟨I.base.keep b o (I.ok.bs b o e).1 (I.ok.bs b o e).2 (I.ok.nofr e) (I.ok.noex b o e),I.base.free b o (I.ok.bs b o e).1 (I.ok.bs b o e).2 (I.ok.noex b o e)⟩
theorem Inv.bk (I:Inv X pins σ H s):∀ b o,X.base.get? b=some o→s.heap.get? b=some o:=fun b o e=>(I.bs b o e).1
theorem Inv.mod (I:Inv X pins σ H s):Mod X.K X.mg X.base:=I.ok.mod
theorem Inv.kIn (I:Inv X pins σ H s):X.K.In s.heap:=I.ok.mod.kin.keeps I.bk
theorem Inv.lt (I:Inv X pins σ H s):X.env.locals < s.heap.objs.size:=let ⟨_,hn,_⟩:=I.loc; hn.lt
theorem Inv.sz (I:Inv X pins σ H s):X.s₀.heap.objs.size≤s.heap.objs.size:=Nat.le_trans I.ok.above (Nat.le_of_lt I.lt)
theorem Inv.nofs (I:Inv X pins σ H s) {a:Addr} (h:s.heap.objs.size≤a):a ∉ X.fs:=fun hb=>by
 obtain ⟨_,o,ho,_⟩:=I.ok.funs.mem hb
 exact absurd (Nat.lt_of_lt_of_le (Heap.lt_size ho) (Nat.le_trans I.sz h)) (Nat.lt_irrefl _)
theorem Inv.cne (I:Inv X pins σ H s):∀ x c,X.env.cells.lookup x=some c→c≠X.env.locals:=fun x c e z=>by
 obtain ⟨v,o,ho,hd⟩:=I.cell x c e
 obtain ⟨m,⟨o',es,ep,ho',hd',_⟩,_⟩:=I.loc
 rw [z,ho'] at ho; cases ho; rw [hd'] at hd; cases hd
theorem Inv.funs (I:Inv X pins σ H s):s.heap.FunFrames X.base X.outer:=by
 have all:∀ (l:List Env),(∀ b∈frs l,b∈X.fs)→X.s₀.heap.FunFrames X.base l→s.heap.FunFrames X.base l:=by
   intro l
   induction l with
   | nil=>intro _ _; trivial
   | cons env r ih =>
     intro hs hl
     obtain ⟨hk,⟨L,o,hf,hn,ho,hd⟩,hr⟩:=hl
     have hL:L∈X.fs:=hs L (by unfold frs; rw [List.filterMap_cons,hf]; exact List.mem_cons_self)
     obtain ⟨sl,e⟩:=I.base.slot L o ho (I.ok.frf L hL) hL fun z=>I.ok.exfs L z hL
     exact ⟨hk,⟨L,_,hf,hn,e,hd⟩,ih (fun b hb=>hs b (by unfold frs; rw [List.filterMap_cons,hf]; exact List.mem_cons_of_mem _ hb)) hr⟩
 exact all X.outer (fun _ hb=>hb) I.ok.funs
theorem Inv.stack (I:Inv X pins σ H s):s.heap.FunFrames X.base X.stack:=by
 rcases I.ok.stk with e | ⟨e,hf⟩
 · rw [e]; exact I.funs
 · rw [e]
   obtain ⟨m,hn,_⟩:=I.loc
   refine .cons (by rw [I.ok.kind]; decide) hf hn ?_ I.funs
   exact Heap.get?_none_of_le (Nat.le_trans I.ok.bsz I.ok.above)
theorem Inv.stkSub (I:Inv X pins σ H s):∀ b∈frs X.stack,b∈X.env.locals :: X.fs:=fun b hb=>by
 rcases I.ok.stk with e | ⟨e,hf⟩
 · rw [e] at hb; exact List.mem_cons_of_mem _ hb
 · rw [e] at hb
   unfold frs at hb
   rw [List.filterMap_cons,hf] at hb
   exact hb
theorem Inv.stkFree (I:Inv X pins σ H s):∀ b∈frs X.stack,H b=none:=fun b hb=>by
 rcases List.mem_cons.mp (I.stkSub b hb) with e | hb
 · rw [e]; exact I.free
 · obtain ⟨_,o,ho,_⟩:=I.ok.funs.mem hb
   exact I.base.free b o ho (I.ok.frf b hb) fun z=>I.ok.exfs b z hb
theorem Inv.step {g':Array GenState} {t':Nat} {d':Drawn} {ch:List Addr} (I:Inv X pins σ H s)
   (hch:∀ b∈ch,(b∈X.ex∨X.s₀.heap.objs.size≤b)∧b≠X.env.locals∧(∀ x c,X.env.cells.lookup x=some c→c≠b)∧∀ p∈X.pn ++ pins,p.1≠b)
   (keep:∀ b o,b≠X.env.locals→b ∉ X.fs→b ∉ ch→s.heap.get? b=some o→H b=none→h'.get? b=some o)
   (slot:∀ b o,b≠X.env.locals→b∈X.fs→b ∉ ch→s.heap.get? b=some o→H b=none→∃ sl,h'.get? b=some { o with slots:=sl }) (free:∀ b o,b ∉ ch→s.heap.get? b=some o→H b=none→H' b=none)
   (there:∀ b o,b ∉ ch→s.heap.get? b=some o→∃ o',h'.get? b=some o')
   (tups:∀ b xs,H b=some (.tup xs)→H' b=some (.tup xs)) (frzs:∀ b o u,H b=some (.frz o u)→H' b=some (.frz o u)) (tbls:∀ b ps,H b=some (.tbl ps)→∃ more,H' b=some (.tbl (ps ++ more)))
   (ns:∀ m,s.heap.Ns X.env.locals m→h'.Ns X.env.locals m) (hok:HOk X.prog X.w H' h') (hg:AllBare g') :
   Inv X pins σ H' { s with heap:=h',gens:=g',drawn:=d',toks:=t' }:=by
 have neL:∀ b o,X.s₀.heap.get? b=some o→b≠X.env.locals:=fun b o e=>Nat.ne_of_lt (Nat.lt_of_lt_of_le (Heap.lt_size e) I.ok.above)
 have neC:∀ b o,X.s₀.heap.get? b=some o→b ∉ X.ex→b ∉ ch:=fun b o e hx hb=>by
   rcases (hch b hb).1 with z | z
   · exact hx z
   · exact absurd (Nat.lt_of_lt_of_le (Heap.lt_size e) z) (Nat.lt_irrefl _)
 have cellK:∀ x c,X.env.cells.lookup x=some c→∀ v,s.heap.IsCell c v→h'.IsCell c v:=fun x c e v ⟨o,ho,hd⟩=>by
   have nch:c ∉ ch:=fun z=>(hch c z).2.2.1 x c e rfl
   by_cases hc:c∈X.fs
   · obtain ⟨sl,q⟩:=slot c o (I.cne x c e) hc nch ho (I.freeC x c e)
     exact ⟨_,q,hd⟩
   · exact ⟨o,keep c o (I.cne x c e) hc nch ho (I.freeC x c e),hd⟩
 refine ⟨I.ok,I.os,hg,⟨fun b o e n hb hx=>?_,fun b o e n hb hx=>?_,fun b o e n hx=>?_,fun b o e hx=>?_,fun b xs e=>tups b xs (I.base.tups b xs e),fun b o xs e=>frzs b o xs (I.base.frzs b o xs e),fun b ps e=>?_⟩,?_,fun x c e=>?_,?_,fun x c e=>?_,fun p hp=>?_,hok,I.len⟩
 · exact keep b o (neL b o e) hb (neC b o e hx) (I.base.keep b o e n hb hx) (I.base.free b o e n hx)
 · obtain ⟨sl,e1⟩:=I.base.slot b o e n hb hx
   obtain ⟨sl',e2⟩:=slot b _ (neL b o e) hb (neC b o e hx) e1 (I.base.free b o e n hx)
   exact ⟨sl',e2⟩
 · obtain ⟨o',e1⟩:=I.base.there b o e hx
   exact free b o' (neC b o e hx) e1 (I.base.free b o e n hx)
 · obtain ⟨o',e1⟩:=I.base.there b o e hx
   exact there b o' (neC b o e hx) e1
 · obtain ⟨m1,e1⟩:=I.base.tbls b ps e
   obtain ⟨m2,e2⟩:=tbls b _ e1
   exact ⟨m1 ++ m2,by rw [e2,Array.append_assoc]⟩
 · obtain ⟨m,hn,hl⟩:=I.loc
   refine ⟨m,ns m hn,fun i x v e1 e2 e3=>?_⟩
   obtain ⟨u,r,l⟩:=hl i x v e1 e2 e3
   refine ⟨u,r,?_⟩
   rcases l with l | ⟨k,c,e,z⟩
   · exact .inl l
   · exact .inr ⟨k,c,e,cellK x c e _ z⟩
 · obtain ⟨v,z⟩:=I.cell x c e
   exact ⟨v,cellK x c e v z⟩
 · obtain ⟨m,⟨o,_,_,ho,_⟩,_⟩:=I.loc
   exact free _ o (fun z=>(hch _ z).2.1 rfl) ho I.free
 · obtain ⟨v,o,ho,hd⟩:=I.cell x c e
   exact free c o (fun z=>(hch c z).2.2.1 x c e rfl) ho (I.freeC x c e)
 · obtain ⟨e,n,ne,nf,d⟩:=I.pin p hp
   have nch:p.1 ∉ ch:=fun z=>(hch p.1 z).2.2.2 p hp rfl
   exact ⟨keep p.1 p.2 ne nf nch e n,free p.1 p.2 nch e n,ne,nf,d⟩
theorem Inv.un {t':Nat} (I:Inv X pins σ H s) (u:Un X.fs [] H H' s.heap h') (hok:HOk X.prog X.w H' h'):Inv X pins σ H' { s with heap:=h',toks:=t' }:=by
 obtain ⟨m,⟨o,es,ep,ho,r⟩,_⟩:=id I.loc
 obtain ⟨sl,hL⟩:=u.any ho I.free (by simp)
 exact I.step (g':=s.gens) (d':=s.drawn) (ch:=[]) (fun _ z=>nomatch z) (fun b o _ hb _ e n=>u.keep b o e n hb (by simp)) (fun b o _ hb _ e n=>u.slot b o e n hb (by simp)) (fun b o _ e n=>u.free b o e n (by simp)) (fun b o _ e=>u.there b o e (by simp)) u.tups u.frzs u.tbls (fun m' hm=>by
   obtain ⟨o',es',ep',ho',r'⟩:=hm
   rw [ho] at ho'; cases ho'
   exact ⟨_,es',ep',hL,r'⟩) hok I.bare
theorem Inv.call {g':Array GenState} {t':Nat} {d':Drawn} {ch:List Addr} (I:Inv X pins σ H s) (u:Un (frs X.stack) ch H H' s.heap h') (hok:HOk X.prog X.w H' h') (hg:AllBare g')
   (hch:∀ b∈ch,(b∈X.ex∨X.s₀.heap.objs.size≤b)∧b≠X.env.locals∧(∀ x c,X.env.cells.lookup x=some c→c≠b)∧∀ p∈X.pn ++ pins,p.1≠b) :
   Inv X pins σ H' { s with heap:=h',gens:=g',drawn:=d',toks:=t' }:=by
 obtain ⟨m,⟨o,es,ep,ho,r⟩,_⟩:=id I.loc
 obtain ⟨sl,hL⟩:=u.any ho I.free fun z=>(hch _ z).2.1 rfl
 exact I.step (ch:=ch) hch (fun b o hL hb hc e n=>u.keep b o e n (fun z=>(List.mem_cons.mp (I.stkSub b z)).elim hL hb) hc) (fun b o _ _ hc e n=>u.any e n hc) (fun b o hc e n=>u.free b o e n hc) (fun b o hc e=>u.there b o e hc) u.tups u.frzs u.tbls (fun m' hm=>by
   obtain ⟨o',es',ep',ho',r'⟩:=hm
   rw [ho] at ho'; cases ho'
   exact ⟨_,es',ep',hL,r'⟩) hok hg
theorem Inv.turned {t':Nat} {it:Addr} (I:Inv X pins σ H s) (k:∀ b o,b≠it→s.heap.get? b=some o→h'.get? b=some o) (hn:H it=none) (hL:it≠X.env.locals)
   (h1:it∈X.ex∨X.s₀.heap.objs.size≤it) (h2:∀ x c,X.env.cells.lookup x=some c→c≠it) (h3:∀ p∈X.pn ++ pins,p.1≠it):Inv X pins σ H { s with heap:=h',toks:=t' }:=by
 have nit:∀ b u,H b=some u→b≠it:=fun b u e z=>by rw [z,hn] at e; cases e
 refine I.step (g':=s.gens) (d':=s.drawn) (ch:=[it]) (fun b hb=>?_) (fun b o _ _ hc e _=>k b o (fun z=>hc (by simp [z])) e) (fun b o _ _ hc e _=>⟨o.slots,k b o (fun z=>hc (by simp [z])) e⟩) (fun _ _ _ _ n=>n)
   (fun b o hc e=>⟨o,k b o (fun z=>hc (by simp [z])) e⟩) (fun _ _ e=>e) (fun _ _ _ e=>e) (fun b ps e=>⟨#[],by rw [e]; simp⟩) (fun m hm=>?_) (fun b u e=>?_) I.bare
 · have e:b=it:=by simpa using hb
   subst e
   exact ⟨h1,hL,h2,h3⟩
 · obtain ⟨o,es,ep,ho,r⟩:=hm
   exact ⟨o,es,ep,k _ o (Ne.symm hL) ho,r⟩
 · refine (I.hok b u e).stay (fun c v hc q=>k c v ?_ q) (fun _ q=>q) fun _ _ q=>q
   rcases hc with z | z
   · rw [z]; exact nit b u e
   · exact nit c _ z
theorem Inv.tok (I:Inv X pins σ H s) (t:Nat):Inv X pins σ H { s with toks:=t }:=I.un (h':=s.heap) (t':=t) Un.refl I.hok
theorem Inv.kept {t':Nat} (I:Inv X pins σ H s) (k:∀ b u,s.heap.get? b=some u→h'.get? b=some u):Inv X pins σ H { s with heap:=h',toks:=t' }:=I.un (Un.kept k) (I.hok.kept k)
theorem Inv.laid {a:Addr} {o:HO} {t':Nat} (I:Inv X pins σ H s) (k:∀ b u,s.heap.get? b=some u→h'.get? b=some u) (hp:s.heap.objs.size≤a) (new:ObjOk X.prog X.w (upd H a o) h' a o) :
   Inv X pins σ (upd H a o) { s with heap:=h',toks:=t' }:=I.un (Un.laid k hp (I.hok.fresh hp)) (I.hok.laid k hp new)
theorem Inv.write {x e:Addr} {o:HO} {t':Nat} (I:Inv X pins σ H s) (mu:Mut (H x)) (he:e=x∨H e=some (.own x)) (k:∀ b u,b≠e→s.heap.get? b=some u→h'.get? b=some u) (heo:∃ u,h'.get? e=some u)
   (new:ObjOk X.prog X.w (upd H x o) h' x o):Inv X pins σ (upd H x o) { s with heap:=h',toks:=t' }:=I.un (Un.write mu he k heo) (I.hok.write mu he k heo new)
theorem Inv.pins_of {pins':List (Addr × Obj)} (I:Inv X pins σ H s) (h:∀ p∈pins',s.heap.get? p.1=some p.2∧H p.1=none∧p.1≠X.env.locals∧p.1 ∉ X.fs∧∀ v,p.2.data≠.cell v):Inv X pins' σ H s :=
 ⟨I.ok,I.os,I.bare,I.base,I.loc,I.cell,I.free,I.freeC,fun p hp=>(List.mem_append.mp hp).elim (fun z=>I.pin p (List.mem_append_left _ z)) (h p),I.hok,I.len⟩
theorem nodup_ix {N:List Str} (hN:N.Nodup) {i j:Nat} {x:Str} (a:N[i]?=some x) (b:N[j]?=some x):i=j:=by
 obtain ⟨h1,e1⟩:=List.getElem?_eq_some_iff.mp a
 obtain ⟨h2,e2⟩:=List.getElem?_eq_some_iff.mp b
 exact (List.getElem_inj hN).mp (e1.trans e2.symm)
theorem store_ok2 {M:Model} {A:Around} {E:Value→Shared→Prop} {i:Nat} {x:Str} {v:V} {u:Value} {Q:Unit→Shared→Prop} (I:Inv X pins σ H s) (hN:X.N.Nodup) (hi:X.N[i]?=some x) (hx:Loc X.env.scope x) (r:RelV v u)
   (h:∀ s',Inv X pins (σ.set i (some v)) H s'→(∃ a,Heap.SameBut a s.heap s'.heap∧(a=X.env.locals∨X.env.cells.lookup x=some a))→Q () s') (hf:X.fn x=true∨X.env.scope.names.lookup x=some .local:=by first | exact .inl rfl | exact .inr rfl | assumption):wpAny M A (storeName X.env x u) Q E s:=by
 obtain ⟨m,hn,hl⟩:=id I.loc
 have hcls:(X.env.scope.kind == .class || (X.env.scope.kind == .module && X.env.locals != X.env.globals))=false:=by rw [I.ok.kind]; rfl
 have hiσ:i < σ.length:=by rw [I.len]; exact (List.getElem?_eq_some_iff.mp hi).1
 have cne:=I.cne
 have tracked:∀ {a:Addr} {h':Heap},(∃ o,s.heap.get? a=some o∧H a=none)→Heap.SameBut a s.heap h'→HOk X.prog X.w H h':=fun {a h'} ha hs b ob e=>by
   obtain ⟨_,_,hfree⟩:=ha
   refine (I.hok b ob e).stay (fun c w' hc q=>(hs.2 c ?_).trans q) (fun _ q=>q) fun _ _ q=>q
   rintro rfl
   rcases hc with rfl | hc
   · rw [hfree] at e; cases e
   · rw [hfree] at hc; cases hc
 rcases hx with hk | hk
 · refine wpAny_storeName_local hk hn (fun h' hn' hs=>?_) hcls
   obtain ⟨oL,_,_,hoL,_⟩:=id hn
   refine h _ ⟨I.ok,I.os,I.bare,⟨fun b o e n hb hx=>?_,fun b o e n hb hx=>?_,I.base.free,fun b o e hx=>?_,I.base.tups,I.base.frzs,I.base.tbls⟩,⟨_,hn',fun j y v' e1 e2 e3=>?_⟩,fun y c e=>?_,I.free,I.freeC,fun p hp=>?_,tracked ⟨oL,hoL,I.free⟩ hs,by simpa using I.len⟩ ⟨_,hs,.inl rfl⟩
   · exact (hs.2 b (Nat.ne_of_lt (Nat.lt_of_lt_of_le (Heap.lt_size e) I.ok.above))).trans (I.base.keep b o e n hb hx)
   · obtain ⟨sl,e1⟩:=I.base.slot b o e n hb hx
     exact ⟨sl,(hs.2 b (Nat.ne_of_lt (Nat.lt_of_lt_of_le (Heap.lt_size e) I.ok.above))).trans e1⟩
   · obtain ⟨o',e1⟩:=I.base.there b o e hx
     exact ⟨o',(hs.2 b (Nat.ne_of_lt (Nat.lt_of_lt_of_le (Heap.lt_size e) I.ok.above))).trans e1⟩
   · by_cases hj:j=i
     · subst hj
       rw [hi] at e1; cases e1
       rw [List.getElem?_set_self hiσ] at e2
       cases e2
       exact ⟨u,r,.inl ⟨hk,by simp⟩⟩
     · rw [List.getElem?_set_ne (Ne.symm hj)] at e2
       obtain ⟨u',r',q⟩:=hl j y v' e1 e2 e3
       refine ⟨u',r',?_⟩
       rcases q with ⟨k,e⟩ | ⟨k,c,e,z⟩
       · refine .inl ⟨k,?_⟩
         have:y≠x:=fun e=>hj (nodup_ix hN e1 (e ▸ hi))
         simp [this,e]
       · exact .inr ⟨k,c,e,z.sameBut hs (cne y c e)⟩
   · obtain ⟨w',z⟩:=I.cell y c e
     exact ⟨w',z.sameBut hs (cne y c e)⟩
   · obtain ⟨e,n,ne,nf,d⟩:=I.pin p hp
     exact ⟨(hs.2 p.1 ne).trans e,n,ne,nf,d⟩
 · have hfn:X.fn x=true:=by
     rcases hf with z | z
     · exact z
     · rw [z] at hk; cases hk
   obtain ⟨c,hc⟩:=I.ok.has x (.inl hk)
   obtain ⟨w',z⟩:=I.cell x c hc
   refine wpAny_storeName_cell I.ok.kind hk hc z (fun h' hc' hs=>?_)
   obtain ⟨oc,hoc,hocd⟩:=id z
   refine h { s with heap:=h' } ⟨I.ok,I.os,I.bare,⟨fun b o e n hb hx=>?_,fun b o e n hb hx=>?_,I.base.free,fun b o e hx=>?_,I.base.tups,I.base.frzs,I.base.tbls⟩,⟨m,hn.sameBut hs (Ne.symm (cne x c hc)),fun j y v' e1 e2 e3=>?_⟩,fun y c' e=>?_,I.free,I.freeC,fun p hp=>?_,tracked ⟨oc,hoc,I.freeC x c hc⟩ hs,by simpa using I.len⟩ ⟨c,hs,.inr hc⟩
   · exact (hs.2 b (Nat.ne_of_lt (Nat.lt_of_lt_of_le (Heap.lt_size e) (I.ok.cab x c hfn hc)))).trans (I.base.keep b o e n hb hx)
   · obtain ⟨sl,e1⟩:=I.base.slot b o e n hb hx
     exact ⟨sl,(hs.2 b (Nat.ne_of_lt (Nat.lt_of_lt_of_le (Heap.lt_size e) (I.ok.cab x c hfn hc)))).trans e1⟩
   · obtain ⟨o',e1⟩:=I.base.there b o e hx
     exact ⟨o',(hs.2 b (Nat.ne_of_lt (Nat.lt_of_lt_of_le (Heap.lt_size e) (I.ok.cab x c hfn hc)))).trans e1⟩
   · by_cases hj:j=i
     · subst hj
       rw [hi] at e1; cases e1
       rw [List.getElem?_set_self hiσ] at e2
       cases e2
       exact ⟨u,r,.inr ⟨.inl hk,c,hc,hc'⟩⟩
     · rw [List.getElem?_set_ne (Ne.symm hj)] at e2
       obtain ⟨u',r',q⟩:=hl j y v' e1 e2 e3
       refine ⟨u',r',?_⟩
       rcases q with q | ⟨k,c',e,z'⟩
       · exact .inl q
       · refine .inr ⟨k,c',e,z'.sameBut hs ?_⟩
         rintro rfl
         exact hj (nodup_ix hN e1 (I.ok.inj _ _ _ e hc ▸ hi))
   · by_cases hcc:c'=c
     · subst hcc; exact ⟨_,hc'⟩
     · obtain ⟨w2,z2⟩:=I.cell y c' e
       exact ⟨w2,z2.sameBut hs hcc⟩
   · obtain ⟨e,n,ne,nf,d⟩:=I.pin p hp
     refine ⟨(hs.2 p.1 ?_).trans e,n,ne,nf,d⟩
     intro q
     rw [q,hoc] at e
     have q':oc=p.2:=Option.some.inj e
     exact d w' (by rw [← q']; exact hocd)
theorem store_ok {M:Model} {A:Around} {E:Value→Shared→Prop} {i:Nat} {x:Str} {v:V} {u:Value} {Q:Unit→Shared→Prop} (I:Inv X pins σ H s) (hN:X.N.Nodup) (hi:X.N[i]?=some x) (hx:Loc X.env.scope x) (r:RelV v u)
   (h:∀ s',Inv X pins (σ.set i (some v)) H s'→Q () s') (hf:X.fn x=true∨X.env.scope.names.lookup x=some .local:=by first | exact .inl rfl | exact .inr rfl | assumption):wpAny M A (storeName X.env x u) Q E s :=
 store_ok2 I hN hi hx r (fun s' I' _=>h s' I') hf
theorem Inv.call' {s':Shared} {ch:List Addr} (I:Inv X pins σ H s) (ho:s'.os=s.os) (u:Un (frs X.stack) ch H H' s.heap s'.heap) (hok:HOk X.prog X.w H' s'.heap) (hg:AllBare s'.gens)
   (hch:∀ b∈ch,(b∈X.ex∨X.s₀.heap.objs.size≤b)∧b≠X.env.locals∧(∀ x c,X.env.cells.lookup x=some c→c≠b)∧∀ p∈X.pn ++ pins,p.1≠b):Inv X pins σ H' s':=by
 obtain ⟨h',g',d',t',o'⟩:=s'
 have e:o'=s.os:=ho
 subst e
 exact I.call (g':=g') (t':=t') (d':=d') u hok hg hch
end
abbrev XK:=Value→Option Addr→Hp→Prop
abbrev St:=List (Option V)
abbrev VK:=V→Hp→Prop
abbrev TE:=St→Hp→VK→Prop
abbrev TT:=St→Hp→(Bool→Hp→Prop)→Prop
abbrev TA:=St→Hp→(List V→Hp→Prop)→Prop
structure Ends where
 nx:St→Hp→Prop
 rt:VK
 bk:St→Hp→Prop:=fun _ _=>False
 ct:St→Hp→Prop:=fun _ _=>False
abbrev TS:=Ends→St→Hp→Prop
def EP (X:Cx) (pins:List (Addr × Obj)) (σ:St) (Q:VK) (u:Value) (s':Shared):Prop:=∃ v H',Inv X pins σ H' s'∧RelV v u∧Q v H'
def TP (X:Cx) (pins:List (Addr × Obj)) (σ:St) (Q:Bool→Hp→Prop) (b:Bool) (s':Shared):Prop:=∃ H',Inv X pins σ H' s'∧Q b H'
def AP (X:Cx) (pins:List (Addr × Obj)) (σ:St) (Q:List V→Hp→Prop) (us:List Value) (s':Shared):Prop:=∃ vs H',Inv X pins σ H' s'∧Vals vs us∧Q vs H'
def SP (X:Cx) (pins:List (Addr × Obj)) (D:Ends) (f:Flow) (s':Shared):Prop :=
 match f with
 | .next=>∃ σ' H',Inv X pins σ' H' s'∧D.nx σ' H'
 | .brk=>∃ σ' H',Inv X pins σ' H' s'∧D.bk σ' H'
 | .cont=>∃ σ' H',Inv X pins σ' H' s'∧D.ct σ' H'
 | .ret u=>∃ v σ' H',Inv X pins σ' H' s'∧RelV v u∧D.rt v H'
def PE (X:Cx) (e:Expr) (t:TE):Prop :=
 ∀ (pins:List (Addr × Obj)) (s:Shared) (σ:St) (H:Hp) (Q:VK),Inv X pins σ H s→t σ H Q→wpAny (model X.prog X.w) X.A (eval e X.env) (EP X pins σ Q) X.xe s
def PT (X:Cx) (e:Expr) (t:TT):Prop :=
 ∀ (pins:List (Addr × Obj)) (s:Shared) (σ:St) (H:Hp) (Q:Bool→Hp→Prop),Inv X pins σ H s→t σ H Q→wpAny (model X.prog X.w) X.A (isTrue e X.env (eval e X.env)) (TP X pins σ Q) X.xe s
def PW (X:Cx) (e:Expr) (t:TT):Prop :=
 ∀ (whole:Sem Value) (pins:List (Addr × Obj)) (s:Shared) (σ:St) (H:Hp) (Q:Bool→Hp→Prop),Inv X pins σ H s→t σ H Q→wpAny (model X.prog X.w) X.A (isTrue e X.env whole) (TP X pins σ Q) X.xe s
theorem PW.pt {X:Cx} {e:Expr} {t:TT} (h:PW X e t):PT X e t:=h _
def PA (X:Cx) (es:List Expr) (t:TA):Prop :=
 ∀ (pos:Pos) (pins:List (Addr × Obj)) (s:Shared) (σ:St) (H:Hp) (Q:List V→Hp→Prop),Inv X pins σ H s→t σ H Q→wpAny (model X.prog X.w) X.A (spliced (backTo pos (starEach es X.env))) (AP X pins σ Q) X.xe s
def PS (X:Cx) (st:Stmt) (t:TS):Prop :=
 ∀ (pins:List (Addr × Obj)) (s:Shared) (σ:St) (H:Hp) (D:Ends),Inv X pins σ H s→t D σ H→wpAny (model X.prog X.w) X.A (exec st X.env) (SP X pins D) X.xe s
def PSs (X:Cx) (st:List Stmt) (t:TS):Prop :=
 ∀ (pins:List (Addr × Obj)) (s:Shared) (σ:St) (H:Hp) (D:Ends),Inv X pins σ H s→t D σ H→wpAny (model X.prog X.w) X.A (execs st X.env) (SP X pins D) X.xe s
theorem thn {α:Type} {t:Sem α} {Q Q':α→Shared→Prop} {M:Model} {A:Around} {E:Value→Shared→Prop} {s:Shared} (h:wpAny M A t Q E s) (hQ:∀ a s,Q a s→Q' a s):wpAny M A t Q' E s:=wpAny_mono h hQ fun _ _ x=>x
theorem thnE {t:Sem Value} {X:Cx} {pins:List (Addr × Obj)} {σ:St} {Q:VK} {Q':Value→Shared→Prop} {M:Model} {A:Around} {E:Value→Shared→Prop} {s:Shared} (h:wpAny M A t (EP X pins σ Q) E s) (hQ:∀ u s v H,Inv X pins σ H s→RelV v u→Q v H→Q' u s):wpAny M A t Q' E s:=thn h fun u s ⟨v,H,I,r,q⟩=>hQ u s v H I r q
theorem thnA {t:Sem (List Value)} {X:Cx} {pins:List (Addr × Obj)} {σ:St} {Q:List V→Hp→Prop} {Q':List Value→Shared→Prop} {M:Model} {A:Around} {E:Value→Shared→Prop} {s:Shared} (h:wpAny M A t (AP X pins σ Q) E s) (hQ:∀ u s v H,Inv X pins σ H s→Vals v u→Q v H→Q' u s):wpAny M A t Q' E s:=thn h fun u s ⟨v,H,I,r,q⟩=>hQ u s v H I r q
theorem thnT {t:Sem Bool} {X:Cx} {pins:List (Addr × Obj)} {σ:St} {Q:Bool→Hp→Prop} {Q':Bool→Shared→Prop} {M:Model} {A:Around} {E:Value→Shared→Prop} {s:Shared} (h:wpAny M A t (TP X pins σ Q) E s) (hQ:∀ u s H,Inv X pins σ H s→Q u H→Q' u s):wpAny M A t Q' E s:=thn h fun u s ⟨H,I,q⟩=>hQ u s H I q
end L2
namespace L2
open PySem PySem.Spec PyProof.Rows
section
variable {X:Cx}
def tVar (i:Nat):TE:=fun σ H Q=>∃ v,σ[i]?=some (some v)∧Q v H
def tC (v:V):TE:=fun _ H Q=>Q v H
theorem pe_var {i:Nat} {x:Str} {pos:Pos} (hN:X.N[i]?=some x) (hv:Vis X.env.scope x) (hd:(x == ("__debug__":Str))=false:=by decide) (hcd:(x == ("__classdict__":Str))=false:=by decide):PE X (.Name x pos) (tVar i):=by
 intro pins s σ H Q I h
 obtain ⟨v,e,h⟩:=h
 obtain ⟨m,hn,hl⟩:=I.loc
 obtain ⟨u,r,l⟩:=hl i x v hN e hv
 have fin:EP X pins σ Q u s:=⟨v,H,I,r,h⟩
 rcases l with ⟨hk,hm⟩ | ⟨hk,c,hc,hcell⟩
 · exact wpAny_Name (wpAny_loadName_local I.ok.kind hk hn hm fin) hd
 · rcases hk with hk | hk
   · exact wpAny_Name (wpAny_loadName_cell I.ok.kind hk hc hcell fin) hd
   · exact wpAny_Name (wpAny_loadName_free I.ok.kind hk hc hcell fin hcd) hd
theorem pe_int {i j pos}:PE X (.Constant (.int i) j pos) (tC (.int i)):=fun _ _ _ H _ I h=>wpAny_Constant_int ⟨.int i,H,I.tok _,⟨_,rfl⟩,h⟩
theorem pe_bl {b j pos}:PE X (.Constant (.bool b) j pos) (tC (.bl b)):=fun _ _ _ H _ I h=>Constant_bool ⟨.bl b,H,I,rfl,h⟩
theorem pe_non {j pos}:PE X (.Constant .none j pos) (tC .non):=fun _ _ _ H _ I h=>Constant_none ⟨.non,H,I,rfl,h⟩
theorem pe_str {x j pos}:PE X (.Constant (.str x) j pos) (tC (.str x)):=fun _ _ _ H _ I h=>Calls.Constant_str ⟨.str x,H,I.tok _,⟨_,rfl⟩,h⟩
def Gl (X:Cx) (x:Str):Prop:=X.env.kindOf x=some .globalImplicit
theorem ld_glob {E:Value→Shared→Prop} {pins:List (Addr × Obj)} {s:Shared} {σ:St} {H:Hp} {x:Str} {u:Value} {pos:Pos} {Q:Value→Shared→Prop} (I:Inv X pins σ H s) (hg:Gl X x) (hm:X.mg x=some u) (h:Q u s)
   (hd:(x == ("__debug__":Str))=false:=by decide):wpAny (model X.prog X.w) X.A (eval (.Name x pos) X.env) Q E s :=
 Calls.Name_function_global I.ok.kind hg (Calls.loadGlobal_global (by rw [I.ok.glob]; exact I.mod.glob.keeps I.bk) hm h) hd
theorem ld_blt {E:Value→Shared→Prop} {pins:List (Addr × Obj)} {s:Shared} {σ:St} {H:Hp} {x:Str} {u:Value} {pos:Pos} {Q:Value→Shared→Prop} (I:Inv X pins σ H s) (hg:Gl X x) (hm:X.mg x=none) (hv:bootBuiltins x=some u) (h:Q u s)
   (hn:x≠"__name__":=by decide) (hd:(x == ("__debug__":Str))=false:=by decide):wpAny (model X.prog X.w) X.A (eval (.Name x pos) X.env) Q E s:=by
 obtain ⟨mb,h1,h2⟩:=I.mod.blt
 exact Calls.Name_function_global I.ok.kind hg (Calls.loadGlobal_builtin (by rw [I.ok.glob]; exact I.mod.glob.keeps I.bk) hm (by rw [I.ok.blt]; exact h1.keeps I.bk) ((h2 x hn).trans hv) h) hd
theorem pe_glob {x:Str} {v:V} {u:Value} {pos:Pos} (hg:Gl X x) (hm:X.mg x=some u) (r:RelV v u) (hd:(x == ("__debug__":Str))=false:=by decide):PE X (.Name x pos) (tC v) :=
 fun _ _ _ H _ I h=>ld_glob I hg hm ⟨v,H,I,r,h⟩ hd
variable {a b:Expr} {ta tb:TE} {pos:Pos}
def PC (X:Cx) (op:CmpOp) (a b:Expr) (t:TE):Prop :=
 ∀ (pins:List (Addr × Obj)) (s:Shared) (σ:St) (H:Hp) (Q:VK),Inv X pins σ H s→t σ H Q →
   wpAny (model X.prog X.w) X.A (eval a X.env) (fun v s₁=>wpAny (model X.prog X.w) X.A (eval b X.env) (fun u s₂=>wpAny (model X.prog X.w) X.A (compareOp op v u) (EP X pins σ Q) X.xe s₂) X.xe s₁) X.xe s
theorem nobehind (b:Expr) {op:CmpOp} (h:op≠.In) (h2:op≠.NotIn):behindInMarks op b=false:=by
 have e1:(op == CmpOp.In)=false:=by cases op <;> first | rfl | exact absurd rfl h
 have e2:(op == CmpOp.NotIn)=false:=by cases op <;> first | rfl | exact absurd rfl h2
 cases b <;> simp [behindInMarks,e1,e2]
def tIsN (ta:TE):TE:=fun σ H Q=>ta σ H fun x H1=>Q (.bl (decide (x=.non))) H1
def tNotN (ta:TE):TE:=fun σ H Q=>ta σ H fun x H1=>Q (.bl (!decide (x=.non))) H1
theorem RelV.none_iff {x:V} {v:Value} (r:RelV x v):(v == Value.none)=decide (x=.non):=by
 cases x with
 | non=>cases r; rfl
 | bl _=>cases r; rfl
 | int _=>obtain ⟨t,rfl⟩:=r; rfl
 | str _=>obtain ⟨t,rfl⟩:=r; rfl
 | byt _=>obtain ⟨t,rfl⟩:=r; rfl
 | flt _=>obtain ⟨t,rfl⟩:=r; rfl
 | ref _=>cases r; rfl
 | ty _=>cases r; rfl
theorem pc_notN {j pos'} (ha:PE X a ta):PC X .IsNot a (.Constant .none j pos') (tNotN ta):=by
 intro pins s σ H Q I h
 refine thnE (ha pins s σ H _ I h) fun v s1 x H1 I1 r1 q1=>?_
 exact Constant_none (isnot_none_gen ⟨.bl _,H1,I1,by rw [r1.none_iff]; rfl,q1⟩)
def tB (t:TE):TT:=fun σ H Q=>t σ H fun x H1=>∃ c,x=.bl c∧Q c H1
theorem pe_cmp {op:CmpOp} {t:TE} (h:PC X op a b t) (h1:behindInMarks op b=false:=by first | exact nobehind _ (by decide) (by decide) | rfl):PE X (.Compare a [op] [b] pos) t:=fun pins s σ H Q I hw=>wpAny_Compare1 (h pins s σ H Q I hw) h1
theorem pt_cmp {op:CmpOp} {t:TE} (h:PC X op a b t) (h1:behindInMarks op b=false:=by first | exact nobehind _ (by decide) (by decide) | rfl):PT X (.Compare a [op] [b] pos) (tB t):=by
 intro pins s σ H Q I hw
 refine wpAny_isTrue_Compare1 (thn (h pins s σ H _ I hw) fun v s1 h1=>thn h1 fun u s2 h2=>thn h2 fun c s3 ⟨x,H1,I1,r1,q1⟩=>?_) h1
 obtain ⟨d,rfl,q⟩:=q1
 cases r1
 exact wpAny_truthy_bool ⟨H1,I1,q⟩
theorem pt_val {e:Expr} {t:TE} (h:PE X e t) (he:∀ whole,isTrue e X.env whole=(do let v ← whole; standAt e.pos; holding [v] (truthy v)):=by intro _; rfl):PT X e (tB t):=by
 intro pins s σ H Q I hw
 refine isTrue_plain (thnE (h pins s σ H _ I hw) fun v s1 x H1 I1 r1 q1=>?_) (he _)
 obtain ⟨d,rfl,q⟩:=q1
 cases r1
 exact wpAny_truthy_bool ⟨H1,I1,q⟩
variable {tA tB':TT} {rest:List Expr}
def tAnd (t u:TT):TT:=fun σ H Q=>t σ H fun c H1=>if c=true then u σ H1 Q else Q false H1
def tOr (t u:TT):TT:=fun σ H Q=>t σ H fun c H1=>if c=true then Q true H1 else u σ H1 Q
def tNot (t:TT):TT:=fun σ H Q=>t σ H fun c H1=>Q (!c) H1
theorem pw_and1 (ha:PT X a tA):PW X (.BoolOp .And [a] pos) tA:=by
 intro wh pins s σ H Q I h
 refine isTrue_and (thn (ha pins s σ H Q I h) fun c s1 e=>?_)
 cases c with
 | true=>exact isTrue_and_nil e
 | false=>exact e
theorem pw_or1 (ha:PT X a tA):PW X (.BoolOp .Or [a] pos) tA:=by
 intro wh pins s σ H Q I h
 refine isTrue_or (thn (ha pins s σ H Q I h) fun c s1 e=>?_)
 cases c with
 | false=>exact isTrue_or_nil e
 | true=>exact e
theorem pw_and (ha:PT X a tA) (hb:PW X (.BoolOp .And (b :: rest) pos) tB'):PW X (.BoolOp .And (a :: b :: rest) pos) (tAnd tA tB'):=by
 intro wh pins s σ H Q I h
 refine isTrue_and (thnT (ha pins s σ H _ I h) fun c s1 H1 I1 q1=>?_)
 cases c with
 | true=>exact hb wh pins s1 σ H1 Q I1 q1
 | false=>exact ⟨H1,I1,q1⟩
theorem pw_or (ha:PT X a tA) (hb:PW X (.BoolOp .Or (b :: rest) pos) tB'):PW X (.BoolOp .Or (a :: b :: rest) pos) (tOr tA tB'):=by
 intro wh pins s σ H Q I h
 refine isTrue_or (thnT (ha pins s σ H _ I h) fun c s1 H1 I1 q1=>?_)
 cases c with
 | true=>exact ⟨H1,I1,q1⟩
 | false=>exact hb wh pins s1 σ H1 Q I1 q1
theorem pt_not (ha:PT X a tA):PT X (.UnaryOp .Not a pos) (tNot tA):=by
 intro pins s σ H Q I h
 exact isTrue_not (ha pins s σ H (fun c H1=>Q (!c) H1) I h)
def tAndV (ta tb:TE):TE:=fun σ H Q=>ta σ H fun x H1=>∃ c,x=.bl c∧if c=true then tb σ H1 Q else Q (.bl false) H1
def tOrV (ta tb:TE):TE:=fun σ H Q=>ta σ H fun x H1=>∃ c,x=.bl c∧if c=true then Q (.bl true) H1 else tb σ H1 Q
def tNotV (ta:TE):TE:=fun σ H Q=>ta σ H fun x H1=>∃ c,x=.bl c∧Q (.bl (!c)) H1
theorem pe_one {op} {t:TE} (h:PE X a t):PE X (.BoolOp op [a] pos) t:=fun pins s σ H Q I hw=>BoolOp_one (h pins s σ H Q I hw)
theorem pe_and (ha:PE X a ta) (hb:PE X (.BoolOp .And (b :: rest) pos) tb):PE X (.BoolOp .And (a :: b :: rest) pos) (tAndV ta tb):=by
 intro pins s σ H Q I h
 refine BoolOp_and (thnE (ha pins s σ H _ I h) fun v s1 x H1 I1 r1 q1=>?_)
 obtain ⟨c,rfl,q1⟩:=q1
 cases r1
 refine wpAny_truthy_bool ?_
 cases c with
 | true=>exact hb pins s1 σ H1 Q I1 q1
 | false=>exact ⟨.bl false,H1,I1,rfl,q1⟩
def tIf (t:TT) (ta tb:TE):TE:=fun σ H Q=>t σ H fun c H1=>if c=true then ta σ H1 Q else tb σ H1 Q
end
end L2
namespace L2
open PySem PySem.Spec PyProof.Rows
def SqL (K:PySem.W.Frag) (H:Hp) (a:Addr) (xs:List V):Prop :=
 Rd H a (.lst xs) ∨
   ∃ (o:Obj) (its:Array Value) (n:Nat),K.lookup a=some o∧o.cls=.type "list"∧o.dict=none∧o.data=.seq its n∧its.size≤sizeLine∧Vals xs its.toList
def SqT (K:PySem.W.Frag) (H:Hp) (a:Addr) (xs:List V):Prop :=
 Rd H a (.tup xs) ∨
   ∃ (o:Obj) (its:Array Value) (n:Nat),K.lookup a=some o∧o.cls=.type "tuple"∧o.data=.seq its n∧its.size≤sizeLine∧Vals xs its.toList
def absV:Value→Option V
 | .none=>some .non
 | .bool b=>some (.bl b)
 | .int i _=>some (.int i)
 | .str x _=>some (.str x)
 | .bytes b _=>some (.byt b)
 | .float b _=>some (.flt b)
 | .ref a=>some (.ref a)
 | .type n=>some (.ty n)
 | _=>none
theorem RelV.abs {x:V} {u:Value} (r:RelV x u):absV u=some x:=by
 cases x with
 | non=>cases r; rfl
 | bl _=>cases r; rfl
 | int _=>obtain ⟨t,rfl⟩:=r; rfl
 | str _=>obtain ⟨t,rfl⟩:=r; rfl
 | byt _=>obtain ⟨t,rfl⟩:=r; rfl
 | flt _=>obtain ⟨t,rfl⟩:=r; rfl
 | ref _=>cases r; rfl
 | ty _=>cases r; rfl
theorem RelV.inj {x y:V} {u:Value} (r:RelV x u) (q:RelV y u):x=y:=Option.some.inj (r.abs.symm.trans q.abs)
theorem Vals.inj {xs ys:List V} {us:List Value} (h:Vals xs us) (h2:Vals ys us):xs=ys:=by
 induction h generalizing ys with
 | nil=>cases h2; rfl
 | cons r _ ih=>cases h2 with | cons r2 t2=>rw [r.inj r2,ih t2]
section
variable {X:Cx} {pins:List (Addr × Obj)} {σ:St} {H:Hp} {s:Shared} {a:Addr} {xs ys:List V}
theorem SqL.of {K:PySem.W.Frag} (h:H a=some (.lst xs)):SqL K H a xs:=.inl (.inl h)
theorem SqT.of {K:PySem.W.Frag} (h:H a=some (.tup xs)):SqT K H a xs:=.inl (.inl h)
theorem Inv.list (I:Inv X pins σ H s) (h:SqL X.K H a xs):∃ its:List Value,Vals xs its∧PlainL s.heap a its.toArray∧xs.length≤sizeLine:=by
 rcases h with h | ⟨o,its,n,hk,hc,hd,hs,hz,r⟩
 · obtain ⟨z,its,n,r,e⟩:=h.ok I.hok
   exact ⟨its,r,⟨_,n,e,rfl,rfl,rfl⟩,z⟩
 · refine ⟨its.toList,r,⟨o,n,I.kIn a o hk,hc,hd,by simpa using hs⟩,?_⟩
   have e:=r.length
   simp only [Array.length_toList] at e
   omega
theorem Inv.tuple (I:Inv X pins σ H s) (h:SqT X.K H a xs):∃ its:List Value,Vals xs its∧IsTup s.heap a its.toArray∧xs.length≤sizeLine:=by
 rcases h with h | ⟨o,its,n,hk,hc,hs,hz,r⟩
 · obtain ⟨z,its,r,p⟩:=h.ok I.hok
   exact ⟨its,r,p,z⟩
 · refine ⟨its.toList,r,⟨o,I.kIn a o hk,hc,n,by simpa using hs⟩,?_⟩
   have e:=r.length
   simp only [Array.length_toList] at e
   omega
theorem Inv.list_inj (I:Inv X pins σ H s) (h:SqL X.K H a xs) (h':SqL X.K H a ys):xs=ys:=by
 obtain ⟨its,r,⟨o,n,e,_,_,d⟩,_⟩:=I.list h
 obtain ⟨its',r',⟨o',n',e',_,_,d'⟩,_⟩:=I.list h'
 rw [e] at e'; cases e'
 rw [d] at d'
 injection d' with d1 _
 have:its=its':=by simpa using congrArg Array.toList d1
 subst this
 exact r.inj r'
theorem Inv.tuple_inj (I:Inv X pins σ H s) (h:SqT X.K H a xs) (h':SqT X.K H a ys):xs=ys:=by
 obtain ⟨its,r,⟨o,e,_,n,d⟩,_⟩:=I.tuple h
 obtain ⟨its',r',⟨o',e',_,n',d'⟩,_⟩:=I.tuple h'
 rw [e] at e'; cases e'
 rw [d] at d'
 injection d' with d1 _
 have:its=its':=by simpa using congrArg Array.toList d1
 subst this
 exact r.inj r'
end
abbrev Cx.wish (X:Cx) (E:Value→Shared→Prop):Cx:={ X with xe:=E }
abbrev Cx.nox (X:Cx):Cx:=X.wish fun _ _=>False
theorem Cx.Ok.wish {X:Cx} (ok:X.Ok) (E:Value→Shared→Prop):(X.wish E).Ok :=
 ⟨ok.mod,ok.kind,ok.glob,ok.blt,ok.above,ok.inj,ok.has,ok.cab,ok.hd,ok.frames,ok.stk,ok.exf,ok.bs,ok.bsz,ok.noex,ok.exfs,ok.funs,ok.frf⟩
theorem Cx.Ok.unwish {X:Cx} {E:Value→Shared→Prop} (ok:(X.wish E).Ok):X.Ok :=
 ⟨ok.mod,ok.kind,ok.glob,ok.blt,ok.above,ok.inj,ok.has,ok.cab,ok.hd,ok.frames,ok.stk,ok.exf,ok.bs,ok.bsz,ok.noex,ok.exfs,ok.funs,ok.frf⟩
section
variable {X:Cx} {pins:List (Addr × Obj)} {σ:St} {H:Hp} {s:Shared} {E:Value→Shared→Prop}
theorem Inv.wish (I:Inv X pins σ H s) (E:Value→Shared→Prop):Inv (X.wish E) pins σ H s:=⟨I.ok.wish E,I.os,I.bare,I.base,I.loc,I.cell,I.free,I.freeC,I.pin,I.hok,I.len⟩
theorem Inv.unwish (I:Inv (X.wish E) pins σ H s):Inv X pins σ H s:=⟨I.ok.unwish,I.os,I.bare,I.base,I.loc,I.cell,I.free,I.freeC,I.pin,I.hok,I.len⟩
theorem SP.unwish {D:Ends} {f:Flow} {s':Shared} (h:SP (X.wish E) pins D f s'):SP X pins D f s':=by
 cases f with
 | next=>obtain ⟨σ',H',I,q⟩:=h; exact ⟨σ',H',I.unwish,q⟩
 | brk=>obtain ⟨σ',H',I,q⟩:=h; exact ⟨σ',H',I.unwish,q⟩
 | cont=>obtain ⟨σ',H',I,q⟩:=h; exact ⟨σ',H',I.unwish,q⟩
 | ret u=>obtain ⟨v,σ',H',I,r,q⟩:=h; exact ⟨v,σ',H',I.unwish,r,q⟩
theorem PSs.nox {st:List Stmt} {t:TS} (h:PSs X.nox st t):PSs X st t:=fun pins s σ H D I hw =>
 wpAny_mono (h pins s σ H D (I.wish _) hw) (fun _ _ q=>q.unwish) fun _ _ z=>False.elim z
end
section
variable {X:Cx} {st:Stmt} {rest:List Stmt} {t u:TS} {e:Expr} {te:TE} {pos:Pos}
def tNext:TS:=fun D σ H=>D.nx σ H
def tSeq (t u:TS):TS:=fun D σ H=>t { D with nx:=u D } σ H
theorem pss_nil:PSs X [] tNext:=fun _ _ σ H _ I h=>wpAny_execs_nil ⟨σ,H,I,h⟩
theorem pss_cons (h1:PS X st t) (h2:PSs X rest u):PSs X (st :: rest) (tSeq t u):=by
 intro pins s σ H D I h
 refine wpAny_execs_cons (thn (h1 pins s σ H { D with nx:=u D } I h) fun f s1 q=>?_)
 cases f with
 | next =>
   obtain ⟨σ',H',I',q⟩:=q
   exact h2 pins s1 σ' H' D I' q
 | ret v=>exact q
 | brk=>exact q
 | cont=>exact q
theorem pss_one (h1:PS X st t):PSs X [st] t:=by
 intro pins s σ H D I h
 refine wpAny_execs_cons (thn (h1 pins s σ H D I h) fun f s1 q=>?_)
 cases f with
 | next=>exact wpAny_execs_nil q
 | ret v=>exact q
 | brk=>exact q
 | cont=>exact q
theorem Inv.quiet {pins:List (Addr × Obj)} {σ:St} {H:Hp} {s:Shared} (I:Inv X pins σ H s):interactive X.env=false:=by simp [interactive,I.ok.kind]
def tDrop (te:TE):TS:=fun D σ H=>te σ H fun _ H1=>D.nx σ H1
theorem ps_expr (he:PE X e te) (hs:swapsWith e none pos.line X.env=pure false:=by rfl):PS X (.Expr e pos) (tDrop te):=by
 intro pins s σ H D I h
 exact wpAny_Expr_any (thnE (he pins s σ H _ I h) fun v s1 x H1 I1 r1 q1=>⟨σ,H1,I1,q1⟩) I.quiet hs
def tRet (te:TE):TS:=fun D σ H=>te σ H D.rt
theorem ps_ret (he:PE X e te):PS X (.Return (some e) pos) (tRet te):=by
 intro pins s σ H D I h
 exact wpAny_Return_some (thnE (he pins s σ H _ I h) fun v s1 x H1 I1 r1 q1=>⟨x,σ,H1,I1,r1,q1⟩)
def tRetN:TS:=fun D _ H=>D.rt .non H
def tIfS (c:TT) (t u:TS):TS:=fun D σ H=>c σ H fun b H1=>if b=true then t D σ H1 else u D σ H1
theorem ps_if {c:Expr} {a b:List Stmt} {tc:TT} (hc:PT X c tc) (ha:PSs X a t) (hb:PSs X b u):PS X (.If c a b pos) (tIfS tc t u):=by
 intro pins s σ H D I h
 refine wpAny_If (thnT (hc pins s σ H _ I h) fun d s1 H1 I1 q1=>?_)
 cases d with
 | true=>exact ha pins s1 σ H1 D I1 q1
 | false=>exact hb pins s1 σ H1 D I1 q1
def tNever:TS:=fun _ _ _=>False
theorem ps_never:PS X st tNever:=fun _ _ _ _ _ _ h=>h.elim
end
abbrev TG:=V→St→Hp→(St→Hp→Prop)→Prop
abbrev TGs:=List V→St→Hp→(St→Hp→Prop)→Prop
def PG (X:Cx) (target:Expr) (t:TG):Prop :=
 ∀ (pins:List (Addr × Obj)) (s:Shared) (σ:St) (H:Hp) (v:V) (u:Value) (Q:St→Hp→Prop),Inv X pins σ H s→RelV v u→t v σ H Q →
   wpAny (model X.prog X.w) X.A (assign target X.env u) (fun _ s'=>∃ σ' H',Inv X pins σ' H' s'∧Q σ' H') X.xe s
def PGs (X:Cx) (ts:List Expr) (t:TGs):Prop :=
 ∀ (pins:List (Addr × Obj)) (s:Shared) (σ:St) (H:Hp) (vs:List V) (us:List Value) (Q:St→Hp→Prop),Inv X pins σ H s→Vals vs us→t vs σ H Q →
   wpAny (model X.prog X.w) X.A (assignInOrder ((assignEach ts X.env).map (·.2)) us) (fun _ s'=>∃ σ' H',Inv X pins σ' H' s'∧Q σ' H') X.xe s
abbrev TSet:=V→V→V→Hp→(Hp→Prop)→Prop
def PSet (X:Cx) (t:TSet):Prop :=
 ∀ (pins:List (Addr × Obj)) (s:Shared) (σ:St) (H:Hp) (o i v:V) (ov iv u:Value) (Q:Hp→Prop),Inv X pins σ H s→RelV o ov→RelV i iv→RelV v u→t o i v H Q →
   wpAny (model X.prog X.w) X.A (setItem ov iv u) (fun _ s'=>∃ H',Inv X pins σ H' s'∧Q H') X.xe s
abbrev TIp:=V→V→Hp→VK→Prop
def PIp (X:Cx) (op:Operator) (t:TIp):Prop :=
 ∀ (pins:List (Addr × Obj)) (s:Shared) (σ:St) (H:Hp) (x y:V) (v u:Value) (Q:VK),Inv X pins σ H s→RelV x v→RelV y u→t x y H Q →
   wpAny (model X.prog X.w) X.A (inplaceOp op v u) (EP X pins σ Q) X.xe s
section
variable {X:Cx} {pos:Pos}
def gName (i:Nat):TG:=fun v σ H Q=>Q (σ.set i (some v)) H
theorem pg_name {i:Nat} {x:Str} (hN:X.N.Nodup) (hi:X.N[i]?=some x) (hx:Loc X.env.scope x) (hf:X.fn x=true∨X.env.scope.names.lookup x=some .local:=by first | exact .inl rfl | exact .inr rfl | assumption):PG X (.Name x pos) (gName i):=by
 intro pins s σ H v u Q I r h
 exact wpAny_assign_Name (store_ok I hN hi hx r (fun s' I'=>⟨_,H,I',h⟩) hf)
def gNil:TGs:=fun vs σ H Q=>vs=[]∧Q σ H
def gCons (t:TG) (u:TGs):TGs:=fun vs σ H Q=>∃ v r,vs=v :: r∧t v σ H fun σ' H'=>u r σ' H' Q
theorem pgs_nil:PGs X [] gNil:=by
 intro pins s σ H vs us Q I r h
 obtain ⟨e,h⟩:=h
 subst e
 cases r
 exact assignInOrder_nil ⟨σ,H,I,h⟩
theorem pgs_cons {e:Expr} {es:List Expr} {t:TG} {u:TGs} (h1:PG X e t) (h2:PGs X es u)
   (hs:(assignEach (e :: es) X.env).map (·.2)=assign e X.env :: (assignEach es X.env).map (·.2):=by rfl):PGs X (e :: es) (gCons t u):=by
 intro pins s σ H vs us Q I r h
 obtain ⟨v,vr,e1,h⟩:=h
 subst e1
 cases r with
 | cons r rr =>
   rw [hs]
   refine assignInOrder_cons (thn (h1 pins s σ H _ _ _ I r h) fun _ s1 ⟨σ1,H1,I1,q1⟩=>?_)
   exact h2 pins s1 σ1 H1 _ _ Q I1 rr q1
def gTup (K:PySem.W.Frag) (n:Nat) (t:TGs):TG:=fun v σ H Q=>∃ a xs,v=.ref a∧SqT K H a xs∧xs.length=n∧t xs σ H Q
theorem pg_tup {es:List Expr} {k:Nat} {t:TGs} {n:Nat} (hc:X.calm=true) (h:PGs X es t)
   (hn:(assignEach es X.env).length=n:=by rfl) (hst:(assignEach es X.env).findIdx? (·.1)=none:=by rfl):PG X (.Tuple es k pos) (gTup X.K n t):=by
 intro pins s σ H v u Q I r hw
 obtain ⟨a,xs,e1,hq,hl,hw⟩:=hw
 subst e1
 cases r
 obtain ⟨its,rv,ht,hz⟩:=I.tuple hq
 refine assign_Tuple_tuple (I.ok.hd hc) ht (by simp [hn,← hl,rv.length]) hst fun h' hx=>?_
 have I1:Inv X pins σ H { s with heap:=h' }:=I.kept (t':=s.toks) fun b o e=>hx b o (Nat.ne_of_lt (Heap.lt_size e)) e
 exact h pins _ σ H xs _ Q I1 (by simpa using rv) hw
def gSub (to ti:TE) (t:TSet):TG:=fun v σ H Q=>to σ H fun o H1=>ti σ H1 fun i H2=>t o i v H2 fun H3=>Q σ H3
theorem pg_sub {o i:Expr} {to ti:TE} {t:TSet} (ho:PE X o to) (hi:PE X i ti) (hs:PSet X t)
   (ha:∀ v,assign (.Subscript o i pos) X.env v=(do
     let ov ← holding [v] (eval o X.env)
     let iv ← holding [v,ov] (eval i X.env)
     standAt pos
     holding [v,ov,iv] (setItem ov iv v)
     release [v,ov,iv] []):=by intro _; rfl):PG X (.Subscript o i pos) (gSub to ti t):=by
 intro pins s σ H v u Q I r h
 rw [ha]
 refine wpAny_bind (wpAny_holding (thnE (ho pins s σ H _ I h) fun ov s1 x H1 I1 r1 q1=>?_))
 refine wpAny_bind (wpAny_holding (thnE (hi pins s1 σ H1 _ I1 q1) fun iv s2 y H2 I2 r2 q2=>?_))
 refine wpAny_bind (wpAny_standAt (wpAny_bind (wpAny_holding (thn (hs pins s2 σ H2 x y v ov iv u _ I2 r1 r2 r q2) fun _ s3 ⟨H3,I3,q3⟩=>?_))))
 exact wpAny_release ⟨σ,H3,I3,q3⟩
def tAsg (te:TE) (g:TG):TS:=fun D σ H=>te σ H fun x H1=>g x σ H1 D.nx
theorem ps_asg {tg e:Expr} {te:TE} {g:TG} (he:PE X e te) (hg:PG X tg g) (hs:swapsWithSole [tg] e pos.line X.env=pure false:=by rfl) (hw:swappedStores [tg] e X.env=pure none:=by rfl)
   (h1:(assignEach [tg] X.env).map (·.2)=[assign tg X.env]:=by rfl):PS X (.Assign [tg] e pos) (tAsg te g):=by
 intro pins s σ H D I h
 refine wpAny_Assign_stores (thnE (he pins s σ H _ I h) fun v s1 x H1 I1 r1 q1=>?_) hs hw
 rw [h1]
 exact thn (hg pins s1 σ H1 x v _ I1 r1 q1) fun _ s2 q=>q
theorem ps_set {i:Nat} {x:Str} {e:Expr} {te:TE} {pos':Pos} (hN:X.N.Nodup) (hi:X.N[i]?=some x) (hx:Loc X.env.scope x) (he:PE X e te) (hs:swapsWith e (some (.Name x pos')) pos.line X.env=pure false:=by rfl) (hf:X.fn x=true∨X.env.scope.names.lookup x=some .local:=by first | exact .inl rfl | exact .inr rfl | assumption) :
   PS X (.Assign [.Name x pos'] e pos) (tAsg te (gName i)):=by
 intro pins s σ H D I h
 refine wpAny_Assign_Name (thnE (he pins s σ H _ I h) fun v s1 y H1 I1 r1 q1=>?_) hs
 exact store_ok I1 hN hi hx r1 (fun s2 I2=>⟨_,H1,I2,q1⟩) hf
def tAug (i:Nat) (te:TE) (ti:TIp):TS:=fun D σ H=>∃ x,σ[i]?=some (some x)∧te σ H fun y H1=>ti x y H1 fun z H2=>D.nx (σ.set i (some z)) H2
def tAugS (to ti te:TE) (tget:V→V→Hp→VK→Prop) (tip:TIp) (tset:TSet):TS:=fun D σ H=>to σ H fun o H1=>ti σ H1 fun i H2=>tget o i H2 fun x H3=>te σ H3 fun y H4=>tip x y H4 fun z H5=>tset o i z H5 fun H6=>D.nx σ H6
def PGet (X:Cx) (t:V→V→Hp→VK→Prop):Prop :=
 ∀ (pins:List (Addr × Obj)) (s:Shared) (σ:St) (H:Hp) (o i:V) (ov iv:Value) (Q:VK),Inv X pins σ H s→RelV o ov→RelV i iv→t o i H Q →
   wpAny (model X.prog X.w) X.A (getItem ov iv) (EP X pins σ Q) X.xe s
theorem ps_augS {o i e:Expr} {to ti te:TE} {tget:V→V→Hp→VK→Prop} {tip:TIp} {tset:TSet} {op:Operator} {tpos:Pos} (ho:PE X o to) (hi:PE X i ti) (hg:PGet X tget) (he:PE X e te) (hp:PIp X op tip) (hs:PSet X tset)
   (ha:∀ ov iv new,augStore i ov iv new=(do holding [new,ov,iv] (setItem ov iv new); release [new,ov,iv] []; pure .next):=by intros; rfl):PS X (.AugAssign (.Subscript o i tpos) op e pos) (tAugS to ti te tget tip tset):=by
 intro pins s σ H D I h
 refine wpAny_AugAssign_SubscriptAny (thnE (ho pins s σ H _ I h) fun ov s1 x1 H1 I1 r1 q1=>?_) ha
 refine thnE (hi pins s1 σ H1 _ I1 q1) fun iv s2 x2 H2 I2 r2 q2=>?_
 refine thn (hg pins s2 σ H2 x1 x2 ov iv _ I2 r1 r2 q2) fun old s3 ⟨x3,H3,I3,r3,q3⟩=>?_
 refine thnE (he pins s3 σ H3 _ I3 q3) fun v s4 x4 H4 I4 r4 q4=>?_
 refine thn (hp pins s4 σ H4 x3 x4 old v _ I4 r3 r4 q4) fun new s5 ⟨x5,H5,I5,r5,q5⟩=>?_
 exact thn (hs pins s5 σ H5 x1 x2 x5 ov iv new _ I5 r1 r2 r5 q5) fun _ s6 ⟨H6,I6,q6⟩=>⟨σ,H6,I6,q6⟩
def ipI (f:Int→Int→Int):TIp:=fun x y H Q=>∃ i j,x=.int i∧y=.int j∧Q (.int (f i j)) H
theorem ip_add:PIp X .Add (ipI fun i j=>i + j):=by
 intro pins s σ H x y v u Q I r1 r2 h
 obtain ⟨i,j,e1,e2,q⟩:=h
 subst e1; subst e2
 obtain ⟨t,rfl⟩:=r1
 obtain ⟨t',rfl⟩:=r2
 exact iadd_int ⟨.int _,H,I.tok _,⟨_,rfl⟩,q⟩
end
section
variable {X:Cx} {pos:Pos}
def tWhile (c:TT) (tb:TS):TS:=fun D σ H=>∃ W:Nat→St→Hp→Prop,(∃ m,W m σ H)∧∀ m σ H,W m σ H →
 c σ H fun b H1=>if b=true then ∃ N:St→Hp→Prop,(∀ σ' H',N σ' H'→∃ m',m' < m∧W m' σ' H')∧tb { D with nx:=N,ct:=N,bk:=D.nx } σ H1 else D.nx σ H1
theorem ps_while {c:Expr} {body:List Stmt} {tc:TT} {tb:TS} (hp:PassesOwn (model X.prog X.w) X.A X.env X.xe) (hc:PT X c tc) (hb:PSs X body tb):PS X (.While c body [] pos) (tWhile tc tb):=by
 intro pins s σ H D I h
 obtain ⟨W,⟨m0,w0⟩,turn⟩:=h
 refine wpAny_While (codeAny_whileLoop (fun n s'=>∃ σ' H',Inv X pins σ' H' s'∧W n σ' H') ?_ m0 ⟨σ,H,I,w0⟩)
 rintro n s1 ⟨σ1,H1,I1,w1⟩
 refine wpAny_passesOwn hp (thnT (hc pins s1 σ1 H1 _ I1 (turn n σ1 H1 w1)) fun b s2 H2 I2 q2=>?_)
 cases b with
 | true =>
   obtain ⟨N,hN,q2⟩:=q2
   rw [if_pos rfl]
   refine wpAny_passesOwn hp (thn (hb pins s2 σ1 H2 _ I2 q2) fun f s3 q3=>?_)
   cases f with
   | next =>
     obtain ⟨σ3,H3,I3,n3⟩:=q3
     obtain ⟨m',hm,w3⟩:=hN σ3 H3 n3
     exact ⟨m',hm,σ3,H3,I3,w3⟩
   | cont =>
     obtain ⟨σ3,H3,I3,n3⟩:=q3
     obtain ⟨m',hm,w3⟩:=hN σ3 H3 n3
     exact ⟨m',hm,σ3,H3,I3,w3⟩
   | brk=>exact q3
   | ret v=>exact q3
 | false =>
   rw [if_neg Bool.false_ne_true]
   exact wpAny_execs_nil ⟨σ1,H2,I2,q2⟩
end
structure It where
 go:Nat→Hp→Prop
 yld:Nat→Hp→V→Hp→Prop
 stop:Nat→Hp→Prop
def FpOk (X:Cx) (pins:List (Addr × Obj)) (H:Hp) (b:Addr):Prop :=
 H b=none∧b≠X.env.locals∧b ∉ X.fs∧(b∈X.ex∨X.s₀.heap.objs.size≤b)∧(∀ x c,X.env.cells.lookup x=some c→c≠b)∧∀ p∈X.pn ++ pins,p.1≠b
theorem Inv.fpOk {X:Cx} {pins:List (Addr × Obj)} {σ:St} {H H':Hp} {s:Shared} {b:Addr} (I:Inv X pins σ H s) (hb:s.heap.objs.size≤b) (hn:H' b=none):FpOk X pins H' b:=by
 refine ⟨hn,Nat.ne_of_gt (Nat.lt_of_lt_of_le I.lt hb),I.nofs hb,.inr (Nat.le_trans I.sz hb),fun x c e z=>?_,fun p hp z=>?_⟩
 · obtain ⟨v,q⟩:=I.cell x c e
   exact absurd (Nat.lt_of_lt_of_le q.lt (by rw [z]; exact hb)) (Nat.lt_irrefl _)
 · exact absurd (Nat.lt_of_lt_of_le (Heap.lt_size (I.pin p hp).1) (by rw [z]; exact hb)) (Nat.lt_irrefl _)
structure Turn (P:Program) (w:World) (K:PySem.W.Frag) (tg:Expr) (J:It) (fp:List Addr) (it:Addr) (tn:Nat→Heap→Prop):Prop where
 mem:it∈fp
 obj:∀ i h,tn i h→∀ b∈fp,∃ o,h.get? b=some o∧∀ v,o.data≠.cell v
 keep:∀ i h h',tn i h→(∀ b∈fp,∀ o,h.get? b=some o→h'.get? b=some o)→tn i h'
 item:∀ (X:Cx),X.prog=P→X.w=w→X.K=K→X.calm=true→∀ (i:Nat) (pins:List (Addr × Obj)) (s:Shared) (σ:St) (H:Hp) (E:Value→Shared→Prop),Inv X pins σ H s→(∀ b∈fp,FpOk X pins H b)→tn i s.heap→J.go i H →
   wpAny (model P w) X.A (pyNext (.ref it)) (fun r s1=>∃ u,r=some u ∧
     wpAny (model P w) X.A (letOwnedTupleGo tg (.ref it) u) (fun _ s2=>∃ x H',Inv X pins σ H' s2∧RelV x u∧J.yld i H x H'∧tn (i + 1) s2.heap∧∀ b∈fp,H' b=none) E s1) E s
 done:∀ (X:Cx),X.prog=P→X.w=w→X.K=K→X.calm=true→∀ (i:Nat) (pins:List (Addr × Obj)) (s:Shared) (σ:St) (H:Hp) (E:Value→Shared→Prop),Inv X pins σ H s→(∀ b∈fp,FpOk X pins H b)→tn i s.heap→J.stop i H →
   wpAny (model P w) X.A (pyNext (.ref it)) (fun r s1=>r=none∧Inv X pins σ H s1) E s
 self:∀ (A:Around) (i:Nat) (s:Shared) (Q:Value→Shared→Prop) (E:Value→Shared→Prop),tn i s.heap→Q (.ref it) s→wpAny (model P w) A (pyIter (.ref it)) Q E s
abbrev TI:=St→Hp→(It→Hp→Prop)→Prop
def PIE (X:Cx) (pins:List (Addr × Obj)) (σ:St) (tg:Expr) (R:It→Hp→Prop) (itv:Value) (s2:Shared):Prop :=
 ∃ (it:Addr) (fp:List Addr) (tn:Nat→Heap→Prop) (J:It) (H':Hp),itv=.ref it∧Inv X pins σ H' s2∧Turn X.prog X.w X.K tg J fp it tn∧tn 0 s2.heap∧(∀ b∈fp,FpOk X pins H' b)∧R J H'
def PI (X:Cx) (tg iter:Expr) (wi:TI):Prop :=
 ∀ (pins:List (Addr × Obj)) (s:Shared) (σ:St) (H:Hp) (R:It→Hp→Prop),Inv X pins σ H s→wi σ H R →
   wpAny (model X.prog X.w) X.A (eval iter X.env) (fun v s1=>wpAny (model X.prog X.w) X.A (pyIter v) (PIE X pins σ tg R) X.xe s1) X.xe s
theorem go_of {M:Model} {A:Around} {E:Value→Shared→Prop} {s:Shared} {tg:Expr} {it:Addr} {u:Value} {o:Obj} {n:String} {vs:Array Value} {Q:Unit→Shared→Prop} (ho:s.heap.get? it=some o) (hc:o.cls=.type n) (hd:o.data=.fields vs)
   (hn:["enumerate","zip","dict_itemiterator","dict_reverseitemiterator","odict_iterator","itertools.zip_longest","itertools.pairwise"].contains n=false) (hQ:Q () s):wpAny M A (letOwnedTupleGo tg (.ref it) u) Q E s:=by
 unfold letOwnedTupleGo
 cases tg <;> first
   | exact wpAny_pure hQ
   | (cases u <;> first
       | exact wpAny_pure hQ
       | (refine wpAny_bind (wpAny_load ho ?_)
          rw [hc,hd]
          show wpAny M A (if (["enumerate","zip","dict_itemiterator","dict_reverseitemiterator","odict_iterator","itertools.zip_longest","itertools.pairwise"].contains n && vs[0]? == some (rawInt _))=true then _ else _) Q E s
          rw [if_neg (by intro h; rw [hn,Bool.false_and] at h; cases h)]
          exact wpAny_pure hQ))
def Itl (K:PySem.W.Frag) (a:Addr):It :=
 ⟨fun i H=>∃ xs x,SqL K H a xs∧xs[i]?=some x,fun i H x H'=>H'=H∧∀ xs,SqL K H a xs→xs[i]?=some x,fun i H=>∃ xs,SqL K H a xs∧xs.length≤i⟩
def Itt (K:PySem.W.Frag) (a:Addr):It :=
 ⟨fun i H=>∃ xs x,SqT K H a xs∧xs[i]?=some x,fun i H x H'=>H'=H∧∀ xs,SqT K H a xs→xs[i]?=some x,fun i H=>∃ xs,SqT K H a xs∧xs.length≤i⟩
def Itr (lo:Int) (n:Nat):It:=⟨fun i _=>i < n,fun i H x H'=>H'=H∧x=.int (lo + i),fun i _=>n≤i⟩
theorem turn_list {P:Program} {w:World} {K:PySem.W.Frag} {tg:Expr} (a it:Addr):Turn P w K tg (Itl K a) [it] it (fun i h=>h.IsListIter it a i) where
 mem:=by simp
 obj:=fun i h st b hb=>by
   have e:b=it:=by simpa using hb
   subst e
   obtain ⟨o,e,c,d⟩:=st
   exact ⟨o,e,fun v z=>by rw [d] at z; cases z⟩
 keep:=fun i h h' st k=>st.at fun o e=>k it (by simp) o e
 item:=by
   intro X hP hw hK hc i pins s σ H E I hf st hg
   subst hP hw hK
   obtain ⟨xs,x,hq,hx⟩:=hg
   obtain ⟨its,rv,p,hz⟩:=I.list hq
   obtain ⟨u,hu,ru⟩:=rv.get hx
   obtain ⟨f0,f1,f2,f3,f4,f5⟩:=hf it (by simp)
   refine wpAny_pyNext_list_item st p.isList (x:=u) (by simpa using hu) fun h' st' sb=>?_
   have I1:Inv X pins σ H { s with heap:=h' }:=I.turned (t':=s.toks) (fun b o hb e=>(sb.2 b hb).trans e) f0 f1 f3 f4 f5
   obtain ⟨o,e,c,d⟩:=id st'
   exact ⟨u,rfl,go_of (s:={ s with heap:=h' }) e c d (by decide) ⟨x,H,I1,ru,⟨rfl,fun ys hy=>by rw [I.list_inj hy hq]; exact hx⟩,st',fun b hb=>(hf b hb).1⟩⟩
 done:=by
   intro X hP hw hK hc i pins s σ H E I hf st hg
   subst hP hw hK
   obtain ⟨xs,hq,hx⟩:=hg
   obtain ⟨its,rv,p,hz⟩:=I.list hq
   obtain ⟨f0,f1,f2,f3,f4,f5⟩:=hf it (by simp)
   have hl:=rv.length
   exact wpAny_pyNext_list_end (I.ok.hd hc) st p.isList (by simp; omega) fun h' eb=>⟨rfl,I.turned (t':=s.toks) (fun b o hb e=>eb b o hb e) f0 f1 f3 f4 f5⟩
 self:=fun _ _ _ _ _ st h=>wpAny_pyIter_listiter st h
theorem turn_tuple {P:Program} {w:World} {K:PySem.W.Frag} {tg:Expr} (a it:Addr):Turn P w K tg (Itt K a) [it] it (fun i h=>h.IsTupleIter it a i) where
 mem:=by simp
 obj:=fun i h st b hb=>by
   have e:b=it:=by simpa using hb
   subst e
   obtain ⟨o,e,c,d⟩:=st
   exact ⟨o,e,fun v z=>by rw [d] at z; cases z⟩
 keep:=fun i h h' st k=>st.at fun o e=>k it (by simp) o e
 item:=by
   intro X hP hw hK hc i pins s σ H E I hf st hg
   subst hP hw hK
   obtain ⟨xs,x,hq,hx⟩:=hg
   obtain ⟨its,rv,p,hz⟩:=I.tuple hq
   obtain ⟨u,hu,ru⟩:=rv.get hx
   obtain ⟨f0,f1,f2,f3,f4,f5⟩:=hf it (by simp)
   refine wpAny_pyNext_tuple_item st (show s.heap.IsTuple a its.toArray from p) (x:=u) (by simpa using hu) fun h' st' sb=>?_
   have I1:Inv X pins σ H { s with heap:=h' }:=I.turned (t':=s.toks) (fun b o hb e=>(sb.2 b hb).trans e) f0 f1 f3 f4 f5
   obtain ⟨o,e,c,d⟩:=id st'
   exact ⟨u,rfl,go_of (s:={ s with heap:=h' }) e c d (by decide) ⟨x,H,I1,ru,⟨rfl,fun ys hy=>by rw [I.tuple_inj hy hq]; exact hx⟩,st',fun b hb=>(hf b hb).1⟩⟩
 done:=by
   intro X hP hw hK hc i pins s σ H E I hf st hg
   subst hP hw hK
   obtain ⟨xs,hq,hx⟩:=hg
   obtain ⟨its,rv,p,hz⟩:=I.tuple hq
   obtain ⟨f0,f1,f2,f3,f4,f5⟩:=hf it (by simp)
   have hl:=rv.length
   exact wpAny_pyNext_tuple_end (I.ok.hd hc) st (show s.heap.IsTuple a its.toArray from p) (by simp; omega) fun h' eb=>⟨rfl,I.turned (t':=s.toks) (fun b o hb e=>eb b o hb e) f0 f1 f3 f4 f5⟩
 self:=fun _ _ _ _ _ st h=>wpAny_pyIter_tupleiter st h
theorem turn_range {P:Program} {w:World} {K:PySem.W.Frag} {tg:Expr} (it:Addr) (lo:Int) (n:Nat):Turn P w K tg (Itr lo n) [it] it (fun i h=>IsRangeIter h it (lo + (i:Nat) * 1) ((n:Int) - (i:Nat)) 1) where
 mem:=by simp
 obj:=fun i h st b hb=>by
   have e:b=it:=by simpa using hb
   subst e
   exact ⟨_,st,fun v z=>by
     have z':Data.fields _=Data.cell v:=z
     cases z'⟩
 keep:=fun i h h' st k=>k it (by simp) _ st
 item:=by
   intro X hP hw hK hc i pins s σ H E I hf st hg
   subst hP hw hK
   obtain ⟨f0,f1,f2,f3,f4,f5⟩:=hf it (by simp)
   have W:=Walks.range (prog:=X.prog) (w:=X.w) (I.ok.hd hc) it lo 1 n
   refine W.item i s _ _ hg st fun v h' tk hv st' kk=>?_
   obtain ⟨t,rfl⟩:=hv
   have I1:Inv X pins σ H { s with heap:=h',toks:=tk }:=I.turned (fun b o hb e=>kk b o (by simpa using hb) e) f0 f1 f3 f4 f5
   refine ⟨_,rfl,go_of (s:={ s with heap:=h',toks:=tk }) (n:="range_iterator") st' rfl rfl (by decide) ⟨.int (lo + i),H,I1,⟨t,?_⟩,⟨rfl,rfl⟩,st',fun b hb=>(hf b hb).1⟩⟩
   rw [Int.mul_one]
 done:=by
   intro X hP hw hK hc i pins s σ H E I hf st hg
   subst hP hw hK
   obtain ⟨f0,f1,f2,f3,f4,f5⟩:=hf it (by simp)
   exact wpAny_pyNext_range_end (I.ok.hd hc) st (by have:n≤i:=hg; omega) fun h' eb=>⟨rfl,I.turned (t':=s.toks) (fun b o hb e=>eb b o hb e) f0 f1 f3 f4 f5⟩
 self:=fun _ _ _ _ _ st h=>wpAny_pyIter_rangeiter st h
end L2
namespace L2
open PySem PySem.Spec PyProof.Rows
section
variable {X:Cx} {tg:Expr}
def iList (K:PySem.W.Frag) (tl:TE):TI:=fun σ H R=>tl σ H fun x H1=>∃ a,x=.ref a∧(∃ xs,SqL K H1 a xs)∧R (Itl K a) H1
def iTup (K:PySem.W.Frag) (tl:TE):TI:=fun σ H R=>tl σ H fun x H1=>∃ a,x=.ref a∧(∃ xs,SqT K H1 a xs)∧R (Itt K a) H1
theorem pi_list {l:Expr} {tl:TE} (hl:PE X l tl):PI X tg l (iList X.K tl):=by
 intro pins s σ H R I h
 refine thnE (hl pins s σ H _ I h) fun v s1 x H1 I1 r1 q1=>?_
 obtain ⟨a,e,⟨xs,hq⟩,q⟩:=q1
 subst e
 cases r1
 obtain ⟨its,rv,p,hz⟩:=I1.list hq
 refine wpAny_pyIter_list p.isList ?_
 refine ⟨s1.heap.objs.size,[s1.heap.objs.size],_,_,H1,rfl,I1.kept (t':=s1.toks) fun b o e=>Heap.get?_push_of_some _ e,turn_list a _,⟨_,Heap.get?_push_size _ rfl,rfl,rfl⟩,fun b hb=>?_,q⟩
 have e:b=s1.heap.objs.size:=by simpa using hb
 subst e
 exact I1.fpOk (Nat.le_refl _) (I1.hok.fresh (Nat.le_refl _))
theorem pi_tup {l:Expr} {tl:TE} (hl:PE X l tl):PI X tg l (iTup X.K tl):=by
 intro pins s σ H R I h
 refine thnE (hl pins s σ H _ I h) fun v s1 x H1 I1 r1 q1=>?_
 obtain ⟨a,e,⟨xs,hq⟩,q⟩:=q1
 subst e
 cases r1
 obtain ⟨its,rv,p,hz⟩:=I1.tuple hq
 refine wpAny_pyIter_tuple (show s1.heap.IsTuple a its.toArray from p) ?_
 refine ⟨s1.heap.objs.size,[s1.heap.objs.size],_,_,H1,rfl,I1.kept (t':=s1.toks) fun b o e=>Heap.get?_push_of_some _ e,turn_tuple a _,⟨_,Heap.get?_push_size _ rfl,rfl,rfl⟩,fun b hb=>?_,q⟩
 have e:b=s1.heap.objs.size:=by simpa using hb
 subst e
 exact I1.fpOk (Nat.le_refl _) (I1.hok.fresh (Nat.le_refl _))
theorem range_it {pins:List (Addr × Obj)} {σ:St} {H:Hp} {s:Shared} {R:It→Hp→Prop} {E:Value→Shared→Prop} {lo hi:Int} {t u v:Tok} {tk:Nat} (I:Inv X pins σ H s) (h1:-(2 ^ 62)≤lo) (h2:lo < 2 ^ 62) (h3:-(2 ^ 62)≤hi) (h4:hi < 2 ^ 62)
   (q:R (Itr lo (hi - lo).toNat) H):wpAny (model X.prog X.w) X.A (pyIter (.ref s.heap.objs.size)) (PIE X pins σ tg R) E { s with heap:=s.heap.push { cls:=.type "range",data:=.fields #[.int lo t,.int hi u,.int 1 v] },toks:=tk }:=by
 refine wpAny_pyIter_range (IsRange.new ..) (small_one h1 h2 h3 h4) ?_
 have I1:Inv X pins σ H { s with heap:=s.heap.push { cls:=.type "range",data:=.fields #[.int lo t,.int hi u,.int 1 v] },toks:=tk }:=I.kept fun b o e=>Heap.get?_push_of_some _ e
 refine ⟨(s.heap.push { cls:=.type "range",data:=.fields #[.int lo t,.int hi u,.int 1 v] }).objs.size,[(s.heap.push { cls:=.type "range",data:=.fields #[.int lo t,.int hi u,.int 1 v] }).objs.size],_,_,H,rfl,
   I1.kept (t':=tk) fun b o e=>Heap.get?_push_of_some _ e,turn_range _ lo (hi - lo).toNat,?_,fun b hb=>?_,q⟩
 · have e1:lo + ((0:Nat):Int) * 1=lo:=by simp
   have e2:(((hi - lo).toNat:Nat):Int) - ((0:Nat):Int)=Builtin.Range.rangeSize lo hi 1:=by rw [rangeSize_one]; split <;> omega
   show IsRangeIter _ _ (lo + ((0:Nat):Int) * 1) ((((hi - lo).toNat:Nat):Int) - ((0:Nat):Int)) 1
   rw [e1,e2]
   exact Heap.get?_push_size _ rfl
 · have e:b=(s.heap.push { cls:=.type "range",data:=.fields #[.int lo t,.int hi u,.int 1 v] }).objs.size:=by simpa using hb
   subst e
   exact I1.fpOk (Nat.le_refl _) (I1.hok.fresh (Nat.le_refl _))
def iRng1 (ta:TA):TI:=fun σ H R=>ta σ H fun vs H1=>∃ j:Int,vs=[.int j]∧-(2 ^ 62)≤j∧j < 2 ^ 62∧R (Itr 0 j.toNat) H1
def iRng2 (ta:TA):TI:=fun σ H R=>ta σ H fun vs H1=>∃ i j:Int,vs=[.int i,.int j]∧(-(2 ^ 62)≤i∧i < 2 ^ 62∧-(2 ^ 62)≤j∧j < 2 ^ 62)∧R (Itr i (j - i).toNat) H1
theorem pi_range1 {a:Expr} {ta:TA} {p pos:Pos} (hg:Gl X "range") (hm:X.mg "range"=none) (ha:PA X [a] ta) (hs:starEach [a] X.env=[(false,eval a X.env)]:=by rfl):PI X tg (.Call (.Name "range" p) [a] [] pos) (iRng1 ta):=by
 intro pins s σ H R I h
 refine Call_ (ld_blt I hg hm boot_range (PyProof.Rows.callWith_type1 (thnA (ha pos pins s σ H _ I h) fun us s1 vs H1 I1 r1 q1=>?_) hs rfl))
 obtain ⟨j,e,q1,q2,q⟩:=q1
 subst e
 cases r1 with
 | cons r rr =>
   cases rr
   obtain ⟨t,rfl⟩:=r
   exact call_range_1 (range_it I1 (by omega) (by omega) q1 q2 (by simpa using q))
theorem pi_range2 {a b:Expr} {ta:TA} {p pos:Pos} (hg:Gl X "range") (hm:X.mg "range"=none) (ha:PA X [a,b] ta) (hs:starEach [a,b] X.env=[(false,eval a X.env),(false,eval b X.env)]:=by rfl) (hs2:starEach [b] X.env=[(false,eval b X.env)]:=by rfl) :
   PI X tg (.Call (.Name "range" p) [a,b] [] pos) (iRng2 ta):=by
 intro pins s σ H R I h
 refine Call_ (ld_blt I hg hm boot_range (PyProof.Rows.callWith_type1 (thnA (ha pos pins s σ H _ I h) fun us s1 vs H1 I1 r1 q1=>?_) (by rw [hs,hs2]) (by rw [hs2]; rfl)))
 obtain ⟨i,j,e,⟨q1,q2,q3,q4⟩,q⟩:=q1
 subst e
 cases r1 with
 | cons r rr =>
   cases rr with
   | cons r' rr =>
     cases rr
     obtain ⟨t,rfl⟩:=r
     obtain ⟨t',rfl⟩:=r'
     exact call_range_2 (range_it I1 q1 q2 q3 q4 q)
def tFor (wi:TI) (g:TG) (tb:TS):TS:=fun D σ H=>wi σ H fun J H1=>∃ W:Nat→Nat→St→Hp→Prop,(∃ m,W 0 m σ H1)∧∀ i m σ H,W i m σ H →
 (J.stop i H∧D.nx σ H)∨(J.go i H∧∃ N:St→Hp→Prop,(∀ σ' H',N σ' H'→∃ m',m' < m∧W (i + 1) m' σ' H')∧∀ x H',J.yld i H x H'→g x σ H' fun σ2 H2=>tb { D with nx:=N,ct:=N,bk:=D.nx } σ2 H2)
def pinsAt (fp:List Addr) (h:Heap):List (Addr × Obj):=fp.filterMap fun b=>(h.get? b).map fun o=>(b,o)
theorem mem_pinsAt {fp:List Addr} {h:Heap} {b:Addr} {o:Obj} (hb:b∈fp) (e:h.get? b=some o):(b,o)∈pinsAt fp h:=List.mem_filterMap.mpr ⟨b,hb,by rw [e]; rfl⟩
theorem of_pinsAt {fp:List Addr} {h:Heap} {p:Addr × Obj} (hp:p∈pinsAt fp h):p.1∈fp∧h.get? p.1=some p.2:=by
 obtain ⟨b,hb,e⟩:=List.mem_filterMap.mp hp
 cases q:h.get? b with
 | none=>rw [q] at e; cases e
 | some o =>
   rw [q] at e
   have e':(b,o)=p:=Option.some.inj e
   subst e'
   exact ⟨hb,q⟩
theorem Inv.pinned {pins:List (Addr × Obj)} {σ:St} {H:Hp} {s:Shared} {fp:List Addr} (I:Inv X pins σ H s) (hf:∀ b∈fp,FpOk X pins H b) (ho:∀ b∈fp,∃ o,s.heap.get? b=some o∧∀ v,o.data≠.cell v):Inv X (pins ++ pinsAt fp s.heap) σ H s :=
 I.pins_of fun p hp=>(List.mem_append.mp hp).elim (fun z=>I.pin p (List.mem_append_right _ z)) fun z=>by
   obtain ⟨hb,e⟩:=of_pinsAt z
   obtain ⟨f0,f1,f2,_⟩:=hf p.1 hb
   obtain ⟨o,e',d⟩:=ho p.1 hb
   rw [e] at e'; cases e'
   exact ⟨e,f0,f1,f2,d⟩
theorem Inv.unpinned {pins pl:List (Addr × Obj)} {σ:St} {H:Hp} {s:Shared} (I:Inv X (pins ++ pl) σ H s):Inv X pins σ H s:=I.pins_of fun p hp=>I.pin p (List.mem_append_right _ (List.mem_append_left _ hp))
theorem ps_for {iter:Expr} {body:List Stmt} {wi:TI} {g:TG} {tb:TS} {pos:Pos} (hp:PassesOwn (model X.prog X.w) X.A X.env X.xe) (hc:X.calm=true) (hi:PI X tg iter wi) (hg:PG X tg g) (hb:PSs X body tb)
   (hs:∀ x,foldedSetIterable iter X.env x=pure x:=by intro _; rfl):PS X (.For tg iter body [] pos) (tFor wi g tb):=by
 intro pins s σ H D I h
 refine wpAny_For (thn (hi pins s σ H _ I h) fun v s1 h1=>thn h1 fun itv s2 h2=>?_) hs
 obtain ⟨it,fp,tn,J,H2,e,I2,T,st2,f2,W,⟨m0,w0⟩,turn⟩:=h2
 subst e
 have stat:∀ {H':Hp},(∀ b∈fp,H' b=none)→∀ b∈fp,FpOk X pins H' b:=fun hn b hb=>⟨hn b hb,(f2 b hb).2⟩
 refine codeAny_forLoop_any (fun n s'=>∃ i σ' H',Inv X pins σ' H' s'∧tn i s'.heap∧(∀ b∈fp,H' b=none)∧W i n σ' H') ?_ m0 ⟨0,σ,H2,I2,st2,fun b hb=>(f2 b hb).1,w0⟩
 rintro n s3 ⟨i,σ3,H3,I3,st3,fr3,w3⟩
 rcases turn i n σ3 H3 w3 with ⟨stop,qn⟩ | ⟨go,N,hN,step⟩
 · refine wpAny_passesOwn hp (thn (T.done X rfl rfl rfl hc i pins s3 σ3 H3 X.xe I3 (stat fr3) st3 stop) fun r s4 ⟨hr,I4⟩=>?_)
   subst hr
   exact wpAny_execs_nil ⟨σ3,H3,I4,qn⟩
 · refine wpAny_passesOwn hp (thn (T.item X rfl rfl rfl hc i pins s3 σ3 H3 X.xe I3 (stat fr3) st3 go) fun r s4 ⟨u,hr,h4⟩=>?_)
   subst hr
   refine wpAny_passesOwn hp (thn h4 fun _ s5 ⟨x,H5,I5,r5,y5,st5,fr5⟩=>?_)
   have I5':=I5.pinned (stat fr5) (T.obj _ _ st5)
   refine wpAny_passesOwn hp (thn (hg _ s5 σ3 H5 x u _ I5' r5 (step x H5 y5)) fun _ s6 ⟨σ6,H6,I6,q6⟩=>?_)
   refine wpAny_passesOwn hp (thn (hb _ s6 σ6 H6 _ I6 q6) fun f s7 q7=>?_)
   have again:∀ {σ7:St} {H7:Hp},Inv X (pins ++ pinsAt fp s5.heap) σ7 H7 s7→N σ7 H7→∃ m,m < n∧∃ i σ' H',Inv X pins σ' H' s7∧tn i s7.heap∧(∀ b∈fp,H' b=none)∧W i m σ' H':=fun {σ7 H7} I7 n7=>by
     obtain ⟨m',hm,w7⟩:=hN σ7 H7 n7
     refine ⟨m',hm,i + 1,σ7,H7,I7.unpinned,T.keep _ _ _ st5 fun b hb o e=>(I7.pin (b,o) (List.mem_append_right _ (List.mem_append_right _ (mem_pinsAt hb e)))).1,fun b hb=>?_,w7⟩
     obtain ⟨o,e,d⟩:=T.obj _ _ st5 b hb
     exact (I7.pin (b,o) (List.mem_append_right _ (List.mem_append_right _ (mem_pinsAt hb e)))).2.1
   cases f with
   | next=>obtain ⟨σ7,H7,I7,n7⟩:=q7; exact again I7 n7
   | cont=>obtain ⟨σ7,H7,I7,n7⟩:=q7; exact again I7 n7
   | brk=>obtain ⟨σ7,H7,I7,q7⟩:=q7; exact ⟨σ7,H7,I7.unpinned,q7⟩
   | ret v=>obtain ⟨x7,σ7,H7,I7,r7,q7⟩:=q7; exact ⟨x7,σ7,H7,I7.unpinned,r7,q7⟩
end
theorem for_list {K:PySem.W.Frag} {a:Addr} {xs:List V} {g:TG} {tb:TS} {D:Ends} {σ:St} {H:Hp} (Pv:Nat→St→Hp→Prop) (h0:Pv 0 σ H) (hl:∀ i σ H,i≤xs.length→Pv i σ H→SqL K H a xs)
   (hs:∀ i x σ H,xs[i]?=some x→Pv i σ H→g x σ H fun σ2 H2=>tb { D with nx:=Pv (i + 1),ct:=Pv (i + 1),bk:=D.nx } σ2 H2) (hd:∀ σ H,Pv xs.length σ H→D.nx σ H) :
   ∃ W:Nat→Nat→St→Hp→Prop,(∃ m,W 0 m σ H)∧∀ i m σ H,W i m σ H →
     ((Itl K a).stop i H∧D.nx σ H)∨((Itl K a).go i H∧∃ N:St→Hp→Prop,(∀ σ' H',N σ' H'→∃ m',m' < m∧W (i + 1) m' σ' H')∧∀ x H',(Itl K a).yld i H x H'→g x σ H' fun σ2 H2=>tb { D with nx:=N,ct:=N,bk:=D.nx } σ2 H2):=by
 refine ⟨fun i m σ H=>m=xs.length - i∧i≤xs.length∧Pv i σ H,⟨xs.length,by simp,Nat.zero_le _,h0⟩,?_⟩
 rintro i m σ H ⟨rfl,hi,p⟩
 have q:=hl i σ H hi p
 by_cases hlt:i < xs.length
 · refine .inr ⟨⟨xs,xs[i],q,by simp [hlt]⟩,Pv (i + 1),fun σ' H' p'=>⟨xs.length - (i + 1),by omega,rfl,hlt,p'⟩,fun x H' y=>?_⟩
   obtain ⟨e,y⟩:=y
   subst e
   exact hs i x σ _ (y xs q) p
 · have e:i=xs.length:=by omega
   subst e
   exact .inl ⟨⟨xs,q,Nat.le_refl _⟩,hd σ H p⟩
theorem for_tup {K:PySem.W.Frag} {a:Addr} {xs:List V} {g:TG} {tb:TS} {D:Ends} {σ:St} {H:Hp} (Pv:Nat→St→Hp→Prop) (h0:Pv 0 σ H) (hl:∀ i σ H,i≤xs.length→Pv i σ H→SqT K H a xs)
   (hs:∀ i x σ H,xs[i]?=some x→Pv i σ H→g x σ H fun σ2 H2=>tb { D with nx:=Pv (i + 1),ct:=Pv (i + 1),bk:=D.nx } σ2 H2) (hd:∀ σ H,Pv xs.length σ H→D.nx σ H) :
   ∃ W:Nat→Nat→St→Hp→Prop,(∃ m,W 0 m σ H)∧∀ i m σ H,W i m σ H →
     ((Itt K a).stop i H∧D.nx σ H)∨((Itt K a).go i H∧∃ N:St→Hp→Prop,(∀ σ' H',N σ' H'→∃ m',m' < m∧W (i + 1) m' σ' H')∧∀ x H',(Itt K a).yld i H x H'→g x σ H' fun σ2 H2=>tb { D with nx:=N,ct:=N,bk:=D.nx } σ2 H2):=by
 refine ⟨fun i m σ H=>m=xs.length - i∧i≤xs.length∧Pv i σ H,⟨xs.length,by simp,Nat.zero_le _,h0⟩,?_⟩
 rintro i m σ H ⟨rfl,hi,p⟩
 have q:=hl i σ H hi p
 by_cases hlt:i < xs.length
 · refine .inr ⟨⟨xs,xs[i],q,by simp [hlt]⟩,Pv (i + 1),fun σ' H' p'=>⟨xs.length - (i + 1),by omega,rfl,hlt,p'⟩,fun x H' y=>?_⟩
   obtain ⟨e,y⟩:=y
   subst e
   exact hs i x σ _ (y xs q) p
 · have e:i=xs.length:=by omega
   subst e
   exact .inl ⟨⟨xs,q,Nat.le_refl _⟩,hd σ H p⟩
theorem for_range {lo:Int} {n:Nat} {g:TG} {tb:TS} {D:Ends} {σ:St} {H:Hp} (Pv:Nat→St→Hp→Prop) (h0:Pv 0 σ H)
   (hs:∀ i σ H,i < n→Pv i σ H→g (.int (lo + i)) σ H fun σ2 H2=>tb { D with nx:=Pv (i + 1),ct:=Pv (i + 1),bk:=D.nx } σ2 H2) (hd:∀ σ H,Pv n σ H→D.nx σ H) :
   ∃ W:Nat→Nat→St→Hp→Prop,(∃ m,W 0 m σ H)∧∀ i m σ H,W i m σ H →
     ((Itr lo n).stop i H∧D.nx σ H)∨((Itr lo n).go i H∧∃ N:St→Hp→Prop,(∀ σ' H',N σ' H'→∃ m',m' < m∧W (i + 1) m' σ' H')∧∀ x H',(Itr lo n).yld i H x H'→g x σ H' fun σ2 H2=>tb { D with nx:=N,ct:=N,bk:=D.nx } σ2 H2):=by
 refine ⟨fun i m σ H=>m=n - i∧i≤n∧Pv i σ H,⟨n,by simp,Nat.zero_le _,h0⟩,?_⟩
 rintro i m σ H ⟨rfl,hi,p⟩
 by_cases hlt:i < n
 · refine .inr ⟨hlt,Pv (i + 1),fun σ' H' p'=>⟨n - (i + 1),by omega,rfl,hlt,p'⟩,fun x H' y=>?_⟩
   obtain ⟨e,y⟩:=y
   subst e y
   exact hs i σ _ hlt p
 · have e:i=n:=by omega
   subst e
   exact .inl ⟨Nat.le_refl _,hd σ H p⟩
end L2
namespace L2
open PySem PySem.Spec PyProof.Rows
abbrev R2:=V→V→Hp→VK→Prop
def OpR (X:Cx) (f:Value→Value→Sem Value) (r:R2):Prop :=
 ∀ (pins:List (Addr × Obj)) (s:Shared) (σ:St) (H:Hp) (x y:V) (v u:Value) (Q:VK),Inv X pins σ H s→RelV x v→RelV y u→r x y H Q →
   wpAny (model X.prog X.w) X.A (f v u) (EP X pins σ Q) X.xe s
def UnR (X:Cx) (f:Value→Sem Value) (r:V→Hp→VK→Prop):Prop :=
 ∀ (pins:List (Addr × Obj)) (s:Shared) (σ:St) (H:Hp) (x:V) (v:Value) (Q:VK),Inv X pins σ H s→RelV x v→r x H Q →
   wpAny (model X.prog X.w) X.A (f v) (EP X pins σ Q) X.xe s
def CallR (X:Cx) (f:Value) (r:List V→Hp→VK→Prop):Prop :=
 ∀ (pins:List (Addr × Obj)) (s:Shared) (σ:St) (H:Hp) (xs:List V) (us:List Value) (Q:VK),Inv X pins σ H s→Vals xs us→r xs H Q →
   wpAny (model X.prog X.w) X.A (call f us) (EP X pins σ Q) X.xe s
def TruR (X:Cx) (r:V→Hp→(Bool→Hp→Prop)→Prop):Prop :=
 ∀ (pins:List (Addr × Obj)) (s:Shared) (σ:St) (H:Hp) (x:V) (v:Value) (Q:Bool→Hp→Prop),Inv X pins σ H s→RelV x v→r x H Q →
   wpAny (model X.prog X.w) X.A (truthy v) (TP X pins σ Q) X.xe s
def tOp (r:R2) (ta tb:TE):TE:=fun σ H Q=>ta σ H fun x H1=>tb σ H1 fun y H2=>r x y H2 Q
def tUn (r:V→Hp→VK→Prop) (ta:TE):TE:=fun σ H Q=>ta σ H fun x H1=>r x H1 Q
def rI (C:Int→Int→Prop) (g:Int→Int→V):R2:=fun x y H Q=>∃ i j,x=.int i∧y=.int j∧C i j∧Q (g i j) H
def rI0 (g:Int→Int→V):R2:=fun x y H Q=>∃ i j,x=.int i∧y=.int j∧Q (g i j) H
def rU (g:Int→V):V→Hp→VK→Prop:=fun x H Q=>∃ i,x=.int i∧Q (g i) H
section
variable {X:Cx} {a b c:Expr} {ta tb tc:TE} {pos:Pos}
theorem binT (ha:PE X a ta) (hb:PE X b tb) {pins:List (Addr × Obj)} {s:Shared} {σ:St} {H:Hp} {R:V→V→Hp→Prop} (I:Inv X pins σ H s)
   (h:ta σ H fun x H1=>tb σ H1 fun y H2=>R x y H2) {Q:Value→Shared→Prop} {f:Value→Value→Sem Value}
   (hf:∀ v u s2 x y H2,Inv X pins σ H2 s2→RelV x v→RelV y u→R x y H2→wpAny (model X.prog X.w) X.A (f v u) Q X.xe s2) :
   wpAny (model X.prog X.w) X.A (eval a X.env) (fun v s₁=>wpAny (model X.prog X.w) X.A (eval b X.env) (fun u s₂=>wpAny (model X.prog X.w) X.A (f v u) Q X.xe s₂) X.xe s₁) X.xe s:=by
 refine thnE (ha pins s σ H _ I h) fun v s1 x H1 I1 r1 q1=>?_
 refine thnE (hb pins s1 σ H1 _ I1 q1) fun u s2 y H2 I2 r2 q2=>?_
 exact hf v u s2 x y H2 I2 r1 r2 q2
theorem pe_op {op:Operator} {r:R2} (ho:OpR X (binaryOp op) r) (ha:PE X a ta) (hb:PE X b tb):PE X (.BinOp a op b pos) (tOp r ta tb):=by
 intro pins s σ H Q I h
 exact wpAny_BinOp (binT ha hb I h fun v u s2 x y H2 I2 rx ry q=>ho pins s2 σ H2 x y v u Q I2 rx ry q)
theorem pe_un {op:UnaryOp} {r:V→Hp→VK→Prop} (ho:UnR X (unaryOp op) r) (ha:PE X a ta):PE X (.UnaryOp op a pos) (tUn r ta):=by
 intro pins s σ H Q I h
 exact UnaryOp_ (thnE (ha pins s σ H _ I h) fun v s1 x H1 I1 r1 q1=>ho pins s1 σ H1 x v Q I1 r1 q1)
theorem opI {f:Value→Value→Sem Value} {C:Int→Int→Prop} {g:Int→Int→Int}
   (rule:∀ (i j:Int) (t u:Tok) (s:Shared) (Q:Value→Shared→Prop) (E:Value→Shared→Prop),C i j→Q (.int (g i j) s.toks) { s with toks:=s.toks + 1 }→wpAny (model X.prog X.w) X.A (f (.int i t) (.int j u)) Q E s) :
   OpR X f (rI C fun i j=>.int (g i j)):=by
 intro pins s σ H x y v u Q I rx ry h
 obtain ⟨i,j,rfl,rfl,hc,q⟩:=h
 obtain ⟨t,rfl⟩:=rx
 obtain ⟨t',rfl⟩:=ry
 exact rule i j t t' s _ _ hc ⟨.int (g i j),H,I.tok _,⟨_,rfl⟩,q⟩
theorem opI0 {f:Value→Value→Sem Value} {g:Int→Int→Int}
   (rule:∀ (i j:Int) (t u:Tok) (s:Shared) (Q:Value→Shared→Prop) (E:Value→Shared→Prop),Q (.int (g i j) s.toks) { s with toks:=s.toks + 1 }→wpAny (model X.prog X.w) X.A (f (.int i t) (.int j u)) Q E s) :
   OpR X f (rI0 fun i j=>.int (g i j)):=by
 intro pins s σ H x y v u Q I rx ry h
 obtain ⟨i,j,rfl,rfl,q⟩:=h
 obtain ⟨t,rfl⟩:=rx
 obtain ⟨t',rfl⟩:=ry
 exact rule i j t t' s _ _ ⟨.int (g i j),H,I.tok _,⟨_,rfl⟩,q⟩
theorem opB0 {f:Value→Value→Sem Value} {g:Int→Int→Bool}
   (rule:∀ (i j:Int) (t u:Tok) (s:Shared) (Q:Value→Shared→Prop) (E:Value→Shared→Prop),Q (.bool (g i j)) s→wpAny (model X.prog X.w) X.A (f (.int i t) (.int j u)) Q E s) :
   OpR X f (rI0 fun i j=>.bl (g i j)):=by
 intro pins s σ H x y v u Q I rx ry h
 obtain ⟨i,j,rfl,rfl,q⟩:=h
 obtain ⟨t,rfl⟩:=rx
 obtain ⟨t',rfl⟩:=ry
 exact rule i j t t' s _ _ ⟨.bl (g i j),H,I,rfl,q⟩
def CDiv (i j:Int):Prop:=0 < j∧j < 1073741824
def CPow (i j:Int):Prop:=0≤j∧j≤1000000∧i.natAbs < 2 ^ 64
def CMul (i j:Int):Prop:=(-(2 ^ 64) < i∧i < 2 ^ 64)∨(-(2 ^ 64) < j∧j < 2 ^ 64)
theorem CMul.ok {i j:Int} (h:CMul i j):IntMulOk i j:=by
 rcases h with ⟨h1,h2⟩ | ⟨h1,h2⟩
 · exact .of_left (intBits_le_64 h1 h2)
 · exact .of_right (intBits_le_64 h1 h2)
theorem op_add:OpR X (binaryOp .Add) (rI0 fun i j=>.int (i + j)):=opI0 fun _ _ _ _ _ _ _ q=>add_int q
theorem op_sub:OpR X (binaryOp .Sub) (rI0 fun i j=>.int (i - j)):=opI0 fun _ _ _ _ _ _ _ q=>sub_int q
theorem op_mul:OpR X (binaryOp .Mult) (rI CMul fun i j=>.int (i * j)):=opI fun _ _ _ _ _ _ _ hc q=>mul_int q hc.ok
theorem op_fdiv:OpR X (binaryOp .FloorDiv) (rI CDiv fun i j=>.int (i / j)):=opI fun i j _ _ _ _ _ hc q=>by
 have h1:(0:Int) < j:=hc.1
 have h2:j < 1073741824:=hc.2
 exact floordiv_int (by omega) (by rw [Int.fdiv_eq_ediv_of_nonneg i (by omega)]; exact q) (.inl (PyProof.noPylong_small (by omega)))
theorem op_mod:OpR X (binaryOp .Mod) (rI (fun _ j=>0 < j) fun i j=>.int (i % j)):=opI fun i j _ _ _ _ _ hc q=>by
 have h1:(0:Int) < j:=hc
 exact mod_int' (by omega) (by rw [Int.fmod_eq_emod_of_nonneg i (by omega)]; exact q)
theorem op_pow:OpR X (binaryOp .Pow) (rI CPow fun i j=>.int (i ^ j.toNat)):=opI fun _ _ _ _ _ _ _ hc q=>pow_int_small hc.1 hc.2.1 hc.2.2 q
theorem unI {f:Value→Sem Value} {g:Int→Int}
   (rule:∀ (i:Int) (t:Tok) (s:Shared) (Q:Value→Shared→Prop) (E:Value→Shared→Prop),Q (.int (g i) s.toks) { s with toks:=s.toks + 1 }→wpAny (model X.prog X.w) X.A (f (.int i t)) Q E s) :
   UnR X f (rU fun i=>.int (g i)):=by
 intro pins s σ H x v Q I rx h
 obtain ⟨i,rfl,q⟩:=h
 obtain ⟨t,rfl⟩:=rx
 exact rule i t s _ _ ⟨.int (g i),H,I.tok _,⟨_,rfl⟩,q⟩
theorem un_neg:UnR X (unaryOp .USub) (rU fun i=>.int (-i)):=unI fun _ _ _ _ _ q=>neg_int q
end
def scal:V→V→Bool
 | .non,.non=>true | .non,.int _=>true | .int _,.non=>true | .non,.bl _=>true | .bl _,.non=>true | .non,.str _=>true | .str _,.non=>true
 | .int _,.int _=>true | .bl _,.bl _=>true | .str _,.str _=>true | .byt _,.byt _=>true
 | .int _,.str _=>true | .str _,.int _=>true | .bl _,.str _=>true | .str _,.bl _=>true
 | _,_=>false
def rEq:R2:=fun x y H Q=>scal x y=true∧Q (.bl (decide (x=y))) H
def rNe:R2:=fun x y H Q=>scal x y=true∧Q (.bl (!decide (x=y))) H
theorem dec_int {i j:Int}:decide (V.int i=V.int j)=(i == j):=by
 rw [Bool.eq_iff_iff]
 simp
theorem dec_bl {i j:Bool}:decide (V.bl i=V.bl j)=(i == j):=by
 rw [Bool.eq_iff_iff]
 simp
theorem dec_str {i j:Str}:decide (V.str i=V.str j)=(i == j):=by
 rw [Bool.eq_iff_iff]
 simp
theorem dec_byt {i j:Array UInt8}:decide (V.byt i=V.byt j)=(i.toList == j.toList):=by
 rw [Bool.eq_iff_iff]
 cases i
 cases j
 simp
section
variable {X:Cx} {a b c:Expr} {ta tb tc:TE} {pos:Pos}
theorem fin_bl {pins:List (Addr × Obj)} {σ:St} {H:Hp} {s:Shared} {Q:VK} {k k':Bool} (I:Inv X pins σ H s) (q:Q (.bl k) H) (e:k=k'):EP X pins σ Q (.bool k') s:=by
 subst e
 exact ⟨.bl k,H,I,rfl,q⟩
theorem op_eq:OpR X (compareOp .Eq) rEq:=by
 intro pins s σ H x y v u Q I rx ry h
 obtain ⟨hs,q⟩:=h
 cases x with
 | non =>
   cases rx
   cases y with
   | non=>cases ry; exact PySem.EqNone.eq_none_none (fin_bl I q (by simp))
   | bl j=>cases ry; exact PySem.EqNone.eq_none_bool (fin_bl I q (by simp))
   | int j=>obtain ⟨t',rfl⟩:=ry; exact PySem.EqNone.eq_none_int (fin_bl I q (by simp))
   | str j=>obtain ⟨t',rfl⟩:=ry; exact PySem.EqNone.eq_none_str (fin_bl I q (by simp))
   | _=>exact absurd (show false=true from hs) Bool.false_ne_true
 | bl i =>
   cases rx
   cases y with
   | non=>cases ry; exact PySem.EqNone.eq_bool_none (fin_bl I q (by simp))
   | bl j=>cases ry; exact eq_bool (fin_bl I q dec_bl)
   | str j=>obtain ⟨t',rfl⟩:=ry; exact PySem.EqMixed.eq_bool_str (fin_bl I q (by simp))
   | _=>exact absurd (show false=true from hs) Bool.false_ne_true
 | int i =>
   obtain ⟨t,rfl⟩:=rx
   cases y with
   | non=>cases ry; exact PySem.EqNone.eq_int_none (fin_bl I q (by simp))
   | int j=>obtain ⟨t',rfl⟩:=ry; exact eq_int (fin_bl I q dec_int)
   | str j=>obtain ⟨t',rfl⟩:=ry; exact PySem.EqMixed.eq_int_str (fin_bl I q (by simp))
   | _=>exact absurd (show false=true from hs) Bool.false_ne_true
 | str i =>
   obtain ⟨t,rfl⟩:=rx
   cases y with
   | non=>cases ry; exact PySem.EqNone.eq_str_none (fin_bl I q (by simp))
   | bl j=>cases ry; exact PySem.EqMixed.eq_str_bool (fin_bl I q (by simp))
   | int j=>obtain ⟨t',rfl⟩:=ry; exact PySem.EqMixed.eq_str_int (fin_bl I q (by simp))
   | str j=>obtain ⟨t',rfl⟩:=ry; exact eq_str (fin_bl I q dec_str)
   | _=>exact absurd (show false=true from hs) Bool.false_ne_true
 | byt i =>
   obtain ⟨t,rfl⟩:=rx
   cases y with
   | byt j=>obtain ⟨t',rfl⟩:=ry; exact PySem.W.eq_bytes (fin_bl I q dec_byt)
   | _=>exact absurd (show false=true from hs) Bool.false_ne_true
 | _=>cases y <;> exact absurd (show false=true from hs) Bool.false_ne_true
theorem op_ne:OpR X (compareOp .NotEq) rNe:=by
 intro pins s σ H x y v u Q I rx ry h
 obtain ⟨hs,q⟩:=h
 cases x with
 | non =>
   cases rx
   cases y with
   | non=>cases ry; exact PySem.EqNone.ne_none_none (fin_bl I q (by simp))
   | bl j=>cases ry; exact PySem.EqNone.ne_none_bool (fin_bl I q (by simp))
   | int j=>obtain ⟨t',rfl⟩:=ry; exact PySem.EqNone.ne_none_int (fin_bl I q (by simp))
   | str j=>obtain ⟨t',rfl⟩:=ry; exact PySem.EqNone.ne_none_str (fin_bl I q (by simp))
   | _=>exact absurd (show false=true from hs) Bool.false_ne_true
 | bl i =>
   cases rx
   cases y with
   | non=>cases ry; exact PySem.EqNone.ne_bool_none (fin_bl I q (by simp))
   | bl j=>cases ry; exact ne_bool (fin_bl I q (congrArg not dec_bl))
   | str j=>obtain ⟨t',rfl⟩:=ry; exact PySem.EqMixed.ne_bool_str (fin_bl I q (by simp))
   | _=>exact absurd (show false=true from hs) Bool.false_ne_true
 | int i =>
   obtain ⟨t,rfl⟩:=rx
   cases y with
   | non=>cases ry; exact PySem.EqNone.ne_int_none (fin_bl I q (by simp))
   | int j=>obtain ⟨t',rfl⟩:=ry; exact ne_int (fin_bl I q (congrArg not dec_int))
   | str j=>obtain ⟨t',rfl⟩:=ry; exact PySem.EqMixed.ne_int_str (fin_bl I q (by simp))
   | _=>exact absurd (show false=true from hs) Bool.false_ne_true
 | str i =>
   obtain ⟨t,rfl⟩:=rx
   cases y with
   | non=>cases ry; exact PySem.EqNone.ne_str_none (fin_bl I q (by simp))
   | bl j=>cases ry; exact PySem.EqMixed.ne_str_bool (fin_bl I q (by simp))
   | int j=>obtain ⟨t',rfl⟩:=ry; exact PySem.EqMixed.ne_str_int (fin_bl I q (by simp))
   | str j=>obtain ⟨t',rfl⟩:=ry; exact ne_str (fin_bl I q (congrArg not dec_str))
   | _=>exact absurd (show false=true from hs) Bool.false_ne_true
 | byt i =>
   obtain ⟨t,rfl⟩:=rx
   cases y with
   | byt j=>obtain ⟨t',rfl⟩:=ry; exact PySem.W.ne_bytes (fin_bl I q (congrArg not dec_byt))
   | _=>exact absurd (show false=true from hs) Bool.false_ne_true
 | _=>cases y <;> exact absurd (show false=true from hs) Bool.false_ne_true
theorem op_lt:OpR X (compareOp .Lt) (rI0 fun i j=>.bl (decide (i < j))):=opB0 fun _ _ _ _ _ _ _ q=>lt_int q
theorem op_le:OpR X (compareOp .LtE) (rI0 fun i j=>.bl (decide (i≤j))):=opB0 fun _ _ _ _ _ _ _ q=>le_int q
theorem op_gt:OpR X (compareOp .Gt) (rI0 fun i j=>.bl (decide (j < i))):=opB0 fun _ _ _ _ _ _ _ q=>gt_int q
theorem op_ge:OpR X (compareOp .GtE) (rI0 fun i j=>.bl (decide (j≤i))):=opB0 fun _ _ _ _ _ _ _ q=>ge_int q
theorem nomark (b:Expr) {op:CmpOp} (h:op≠.In:=by decide) (h2:op≠.NotIn:=by decide):behindInMarks op b=false:=by
 have e1:(op == CmpOp.In)=false:=by cases op <;> first | rfl | exact absurd rfl h
 have e2:(op == CmpOp.NotIn)=false:=by cases op <;> first | rfl | exact absurd rfl h2
 cases b <;> simp [behindInMarks,e1,e2]
theorem pe_cmpR {op:CmpOp} {r:R2} (ho:OpR X (compareOp op) r) (ha:PE X a ta) (hb:PE X b tb) (hm:behindInMarks op b=false):PE X (.Compare a [op] [b] pos) (tOp r ta tb):=by
 intro pins s σ H Q I h
 exact wpAny_Compare1 (binT ha hb I h fun v u s2 x y H2 I2 rx ry q=>ho pins s2 σ H2 x y v u Q I2 rx ry q) hm
def tTest (t:TE):TT:=fun σ H Q=>t σ H fun x H'=>∃ k,x=.bl k∧Q k H'
theorem pt_cmpR {op:CmpOp} {r:R2} (ho:OpR X (compareOp op) r) (ha:PE X a ta) (hb:PE X b tb) (hm:behindInMarks op b=false):PT X (.Compare a [op] [b] pos) (tTest (tOp r ta tb)):=by
 intro pins s σ H Q I h
 refine wpAny_isTrue_Compare1 (thnE (ha pins s σ H _ I h) fun v s1 x H1 I1 r1 q1=>thnE (hb pins s1 σ H1 _ I1 q1) fun u s2 y H2 I2 r2 q2 =>
   thnE (ho pins s2 σ H2 x y v u _ I2 r1 r2 q2) fun c s3 z H3 I3 r3 ⟨k,e,q3⟩=>?_) hm
 subst e
 cases r3
 exact wpAny_truthy_bool ⟨H3,I3,q3⟩
def tChain (r r':R2) (ta tb tc:TE):TE:=fun σ H Q=>ta σ H fun x H1=>tb σ H1 fun y H2=>r x y H2 fun z H3=>∃ k,z=.bl k ∧
 (if k=true then tc σ H3 fun w' H4=>r' y w' H4 Q else Q (.bl false) H3)
theorem pe_chain {op op':CmpOp} {r r':R2} (ho:OpR X (compareOp op) r) (ho':OpR X (compareOp op') r') (ha:PE X a ta) (hb:PE X b tb) (hc:PE X c tc)
   (hm:lastMarks [op,op'] [b,c]=false:=by with_unfolding_all rfl):PE X (.Compare a [op,op'] [b,c] pos) (tChain r r' ta tb tc):=by
 intro pins s σ H Q I h
 refine Compare_chain (thnE (ha pins s σ H _ I h) fun v s1 x H1 I1 r1 q1=>chain_link (thnE (hb pins s1 σ H1 _ I1 q1) fun u s2 y H2 I2 r2 q2 =>
   thnE (ho pins s2 σ H2 x y v u _ I2 r1 r2 q2) fun d s3 z H3 I3 r3 ⟨k,e,q3⟩=>?_)) hm
 subst e
 cases r3
 refine wpAny_truthy_bool ?_
 cases k with
 | false=>exact ite_ff ⟨.bl false,H3,I3,rfl,q3⟩
 | true=>exact ite_tt (chain_last (thn (hc pins s3 σ H3 _ I3 q3) fun w' s4 ⟨z',H4,I4,r4,q4⟩=>ho' pins s4 σ H4 y z' u w' Q I4 r2 r4 q4))
theorem pt_chain {op op':CmpOp} {r r':R2} (ho:OpR X (compareOp op) r) (ho':OpR X (compareOp op') r') (ha:PE X a ta) (hb:PE X b tb) (hc:PE X c tc)
   (hm:lastMarks [op,op'] [b,c]=false:=by with_unfolding_all rfl):PT X (.Compare a [op,op'] [b,c] pos) (tTest (tChain r r' ta tb tc)):=by
 intro pins s σ H Q I h
 refine isTrue_chain (thnE (ha pins s σ H _ I h) fun v s1 x H1 I1 r1 q1=>test_link (thnE (hb pins s1 σ H1 _ I1 q1) fun u s2 y H2 I2 r2 q2 =>
   thnE (ho pins s2 σ H2 x y v u _ I2 r1 r2 q2) fun d s3 z H3 I3 r3 ⟨k,e,q3⟩=>?_)) hm
 subst e
 cases r3
 refine wpAny_truthy_bool ?_
 cases k with
 | false =>
   obtain ⟨k',e',q'⟩:=q3
   cases e'
   exact ite_ff ⟨H3,I3,q'⟩
 | true =>
   refine ite_tt (test_last (thn (hc pins s3 σ H3 _ I3 q3) fun w' s4 ⟨z',H4,I4,r4,q4⟩=>thn (ho' pins s4 σ H4 y z' u w' _ I4 r2 r4 q4) fun d' s5 ⟨z2,H5,I5,r5,k2,e2,q5⟩=>?_))
   subst e2
   cases r5
   exact wpAny_truthy_bool ⟨H5,I5,q5⟩
def TruV (K:PySem.W.Frag) (x:V) (H:Hp) (k:Bool):Prop :=
 match x with
 | .non=>k=false
 | .bl b=>k=b
 | .int i=>k=(i != 0)
 | .str y=>y.length≤sizeLine∧k=((y.length:Int) != 0)
 | .byt y=>y.size≤sizeLine∧k=((y.size:Int) != 0)
 | .ref p=>(∃ xs,SqL K H p xs∧k=!xs.isEmpty)∨(∃ xs,SqT K H p xs∧k=!xs.isEmpty)∨∃ kvs,H p=some (.dK kvs)∧k=!kvs.isEmpty
 | _=>False
theorem isEmpty_kv {κ:Type} {kvs:List (κ × V)} {vs:List (κ × Value)} (r:KV kvs vs):(!vs.isEmpty)=!kvs.isEmpty:=by
 cases r <;> rfl
theorem isEmpty_of {xs:List V} {its:List Value} (r:Vals xs its):(!its.toArray.isEmpty)=!xs.isEmpty:=by
 cases r <;> simp
theorem line63:(sizeLine:Nat) < 2 ^ 63:=by rw [sizeLine_eq]; decide
theorem tru_ok:TruR X (fun x H Q=>∃ k,TruV X.K x H k∧Q k H):=by
 intro pins s σ H x v Q I rx h
 obtain ⟨k,e,q⟩:=h
 have hl:=line63
 have hs:sizeLine=16777216:=sizeLine_eq
 cases x with
 | non =>
   cases rx
   have e':k=false:=e
   subst e'
   exact truthy_none ⟨H,I,q⟩
 | bl b =>
   cases rx
   have e':k=b:=e
   subst e'
   exact wpAny_truthy_bool ⟨H,I,q⟩
 | int i =>
   obtain ⟨t,rfl⟩:=rx
   have e':k=(i != 0):=e
   subst e'
   exact PySem.P.truthy_int ⟨H,I,q⟩
 | str y =>
   obtain ⟨t,rfl⟩:=rx
   obtain ⟨hy,e'⟩:y.length≤sizeLine∧k=((y.length:Int) != 0):=e
   subst e'
   exact PySem.P.truthy_str (by omega) ⟨H,I.tok _,q⟩
 | byt y =>
   obtain ⟨t,rfl⟩:=rx
   obtain ⟨hy,e'⟩:y.size≤sizeLine∧k=((y.size:Int) != 0):=e
   subst e'
   exact PySem.W.truthy_bytes (by omega) ⟨H,I.tok _,q⟩
 | ref p =>
   cases rx
   have e':(∃ xs,SqL X.K H p xs∧k=!xs.isEmpty)∨(∃ xs,SqT X.K H p xs∧k=!xs.isEmpty)∨∃ kvs,H p=some (.dK kvs)∧k=!kvs.isEmpty:=e
   rcases e' with ⟨xs,hx,e'⟩ | ⟨xs,hx,e'⟩ | ⟨kvs,hx,e'⟩
   · subst e'
     obtain ⟨its,r,pl,hz⟩:=I.list hx
     have hlen:=r.length
     exact wpAny_truthy_list pl.isList (by simp only [List.size_toArray]; omega) ⟨H,I.tok _,by rw [isEmpty_of r]; exact q⟩
   · subst e'
     obtain ⟨its,r,pl,hz⟩:=I.tuple hx
     have hlen:=r.length
     exact truthy_tuple pl (by simp only [List.size_toArray]; omega) ⟨H,I.tok _,by rw [isEmpty_of r]; exact q⟩
   · subst e'
     obtain ⟨hz,hS,vs,r,m⟩:kvs.length≤sizeLine∧(p == sysModules)=false∧∃ vs,KV kvs vs∧s.heap.DictOf (mixKind X.prog X.w) p vs:=I.hok p _ hx
     have hlen:kvs.length=vs.length:=Paired.length r
     exact wpAny_truthy_dict hS m (by omega) ⟨H,I.tok _,by rw [isEmpty_kv r]; exact q⟩
 | _=>exact (show False from e).elim
theorem pt_truth (ha:PE X a ta) (he:∀ whole,isTrue a X.env whole=(do let v ← whole; standAt a.pos; holding [v] (truthy v))) :
   PT X a (fun σ H Q=>ta σ H fun x H'=>∃ k,TruV X.K x H' k∧Q k H'):=by
 intro pins s σ H Q I h
 exact isTrue_plain (thnE (ha pins s σ H _ I h) fun v s1 x H1 I1 r1 q1=>tru_ok pins s1 σ H1 x v Q I1 r1 q1) (he _)
theorem vals1 {x:V} {us:List Value} (r:Vals [x] us):∃ u,us=[u]∧RelV x u:=by
 cases r with
 | cons r1 r2=>cases r2; exact ⟨_,rfl,r1⟩
end
end L2
namespace L2
open PySem PySem.Spec PyProof.Rows
structure ObjM (h:Heap) (x dx C:Addr) (mA:Str→Option Value):Prop where
 obj:h.get? x=some (PySem.W.instObj C dx)
 ns:h.Ns1 dx mA
 ne:dx≠x
theorem lookIn_ns {h:Heap} {dx:Addr} {mA:Str→Option Value} (n:h.Ns1 dx mA):∃ od,h.get? dx=some od∧∀ name,PySem.W.lookIn name od=some (mA name):=by
 obtain ⟨o,es,ep,ho,hd,hk,_,hm⟩:=n
 refine ⟨o,ho,fun name=>?_⟩
 have e:=hm name
 unfold nsFind findBy at e
 rw [← Array.find?_toList] at e
 unfold PySem.W.lookIn
 rw [hd]
 dsimp only
 split
 · rename_i y q
   rw [q] at e
   exact congrArg some e
 · rename_i q
   rw [q] at e
   have a:es.toList.any (·.refKey)=false:=by
     rw [List.any_eq_false]
     intro y hy
     obtain ⟨z,t,hkey⟩:=hk y (Array.mem_toList_iff.mp hy)
     simp [DictEntry.refKey,hkey]
   have a':¬ es.toList.any (·.refKey)=true:=by rw [a]; exact Bool.false_ne_true
   rw [if_neg a']
   exact congrArg some e
theorem ObjM.look {h:Heap} {x dx C:Addr} {mA:Str→Option Value} (I:ObjM h x dx C mA):∃ od,PySem.W.InstAt h x (PySem.W.instObj C dx) C (some od)∧∀ name,PySem.W.lookIn name od=some (mA name) :=
 let ⟨od,ho,hl⟩:=lookIn_ns I.ns
 ⟨od,⟨I.obj,rfl,rfl,ho⟩,hl⟩
section
variable {prog:Program} {w:World} {A:Around} {E:Value→Shared→Prop} {s:Shared} {K:PySem.W.Frag} {x dx C f:Addr} {mA:Str→Option Value} {name:Str} {v:Value}
theorem get_map {expr:Bool} {Q:Value→Shared→Prop} (X:K.In s.heap) (I:ObjM s.heap x dx C mA) (hg:PySem.W.plainGet K C name=true) (hh:PySem.W.hasDictIn K C=true)
   (ha:PySem.W.findIn K (.ref C) name=some none) (hv:mA name=some v) (hv':PySem.W.handedIn v=true) (h:Q v { s with toks:=s.toks + 1 }) :
   wpAny (model prog w) A (getAttr (.ref x) name expr) Q E s:=by
 obtain ⟨od,J,hl⟩:=I.look
 exact PySem.W.get_value X J (PySem.W.plainGet_of hg).1 (PySem.W.findObj_own hh ha rfl (by rw [hl,hv])) hv' h
theorem set_map {ns:List Str} {Q:Unit→Shared→Prop} (X:K.In s.heap) (I:ObjM s.heap x dx C mA)
   (hs:PySem.W.findIn K (.ref C) "__setattr__"=some (some (.builtin "object.__setattr__"))) (hp:PySem.W.plainOver K C=true) (ht:PySem.W.takerIn K C name=some none) (hh:PySem.W.hasDictIn K C=true)
   (hw:PySem.Within mA ns) (hsz:ns.length≤sizeLine)
   (h:∀ h',ObjM h' x dx C (fun y=>if y=name then some v else mA y)→Heap.SameBut dx s.heap h'→Q () { s with heap:=h',toks:=s.toks + 2 }) :
   wpAny (model prog w) A (setAttr (.ref x) name v) Q E s:=by
 obtain ⟨od,J,hl⟩:=I.look
 refine PySem.W.set_plain X J hs (PySem.W.osa_open (s:={ s with toks:=s.toks + 1 }) (r:=none) X J hp ht fun b=>?_)
 obtain ⟨cd,hc,hd'⟩:=PySem.W.any_some hh
 have hx:s.heap.get? x=some ⟨.ref C,some dx,.plain,#[]⟩:=I.obj
 refine wpAny_bind (wpAny_pure (wpAny_bind (wpAny_bind (wpAny_loadPart hx (wpAny_bind (PySem.W.Looks.here (s:={ s with toks:=s.toks + 1 }) (PySem.W.looks_clsIn X hc) ?_))))))
 rw [hd']
 refine wpAny_pure (a:=some dx) (wpAny_bind (wpAny_pure (wpAny_bind ?_)))
 refine wpAny_nsSet1 (s:={ s with toks:=s.toks + 1 }) I.ns fun h' hn2 hs2=>?_
 obtain ⟨oD,esD,epD,hoD,hdD,hcD⟩:=hn2.count (PySem.Within.cons name v hw)
 refine wpAny_bind (wpAny_lookBehind hoD (by rw [hdD]; exact pastItsLine_dict (Nat.le_trans hcD (by rw [List.length_cons]; omega))) ?_)
 exact wpAny_pure (h _ ⟨(hs2.2 _ (Ne.symm I.ne)).trans I.obj,hn2,I.ne⟩ hs2)
theorem make_map {R:Result→Shared→Prop} {vs:List Value} {kw:List (Str × Value)} (X:K.In s.heap) (hm:PySem.W.makesIn K C=true)
   (hi:PySem.W.findIn K (.ref C) "__init__"=some (some (.ref f))) (hf:PySem.W.typeIn K (.ref f)=some (.type "function"))
   (h:codeAny (model prog w) (A.under (.builtin "type.__call__" ⟨.ref C :: vs,kw⟩)) (.call (.ref f) ⟨.ref (s.heap.objs.size + 1) :: vs,kw⟩) (PySem.W.InitBack (s.heap.objs.size + 1) R)
     { s with heap:=(s.heap.push PySem.W.emptyDict).push (PySem.W.instObj C s.heap.objs.size) }) :
   codeAny (model prog w) A (.call (.ref C) ⟨vs,kw⟩) R s:=by
 obtain ⟨hh,g,d,t,os⟩:=s
 exact PySem.W.make_core (PySem.W.makes_of X hm) (PySem.W.looks_findIn X hi) (fun self=>PySem.W.bind_fn X self hf) (.inl rfl) h
end
def putF (f:Str) (v:V):List (Str × V)→List (Str × V)
 | []=>[(f,v)]
 | (g,x) :: r=>if g=f then (g,v) :: r else (g,x) :: putF f v r
theorem lookup_putF (f g:Str) (v:V):∀ fs:List (Str × V),(putF f v fs).lookup g=if g=f then some v else fs.lookup g
 | []=>by
   show List.lookup g [(f,v)]=_
   by_cases h:g=f
   · have hb:(g == f)=true:=beq_iff_eq.mpr h
     simp only [List.lookup,hb,if_pos h]
   · have hb:(g == f)=false:=beq_eq_false_iff_ne.mpr h
     simp only [List.lookup,hb,if_neg h]
 | (k,x) :: r=>by
   have ih:=lookup_putF f g v r
   rw [show putF f v ((k,x) :: r)=(if k=f then (k,v) :: r else (k,x) :: putF f v r) from rfl]
   by_cases hk:k=f
   · rw [if_pos hk]
     by_cases h:g=k
     · have hb:(g == k)=true:=beq_iff_eq.mpr h
       simp only [List.lookup,hb,if_pos (h.trans hk)]
     · have hb:(g == k)=false:=beq_eq_false_iff_ne.mpr h
       simp only [List.lookup,hb,if_neg (fun e:g=f=>h (e.trans hk.symm))]
   · rw [if_neg hk]
     by_cases h:g=k
     · have hb:(g == k)=true:=beq_iff_eq.mpr h
       simp only [List.lookup,hb,if_neg (fun e:g=f=>hk (h.symm.trans e))]
     · have hb:(g == k)=false:=beq_eq_false_iff_ne.mpr h
       simp only [List.lookup,hb]
       exact ih
theorem keys_putF (f:Str) (v:V):∀ fs:List (Str × V),f∈(putF f v fs).map (·.1)∧∀ g,g∈fs.map (·.1)→g∈(putF f v fs).map (·.1)
 | []=>⟨by simp [putF],fun g h=>by simp at h⟩
 | (k,x) :: r=>by
   obtain ⟨i1,i2⟩:=keys_putF f v r
   rw [show putF f v ((k,x) :: r)=(if k=f then (k,v) :: r else (k,x) :: putF f v r) from rfl]
   by_cases hk:k=f
   · rw [if_pos hk]
     subst hk
     exact ⟨by simp,fun g h=>by simpa using h⟩
   · rw [if_neg hk]
     refine ⟨?_,fun g h=>?_⟩
     · rw [List.map_cons]
       exact List.mem_cons_of_mem _ i1
     · rw [List.map_cons] at h ⊢
       rcases List.mem_cons.mp h with e | e
       · exact List.mem_cons.mpr (.inl e)
       · exact List.mem_cons_of_mem _ (i2 g e)
theorem length_putF (f:Str) (v:V):∀ fs:List (Str × V),(putF f v fs).length≤fs.length + 1
 | []=>by simp [putF]
 | (k,x) :: r=>by
   have ih:=length_putF f v r
   rw [show putF f v ((k,x) :: r)=(if k=f then (k,v) :: r else (k,x) :: putF f v r) from rfl]
   by_cases hk:k=f
   · rw [if_pos hk,List.length_cons,List.length_cons]; omega
   · rw [if_neg hk,List.length_cons,List.length_cons]; omega
theorem RelO.some_of {v:V} {o:Option Value} (r:RelO (some v) o):∃ u,o=some u∧RelV v u:=by
 cases o with
 | none=>exact (show False from r).elim
 | some u=>exact ⟨u,rfl,r⟩
theorem handed_of {v:V} {u:Value} (r:RelV v u):PySem.W.handedIn u=true:=by
 cases v with
 | non=>cases (show u=Value.none from r); rfl
 | bl b=>cases (show u=Value.bool b from r); rfl
 | int i=>obtain ⟨t,e⟩:=(show ∃ t,u=Value.int i t from r); cases e; rfl
 | str x=>obtain ⟨t,e⟩:=(show ∃ t,u=Value.str x t from r); cases e; rfl
 | byt b=>obtain ⟨t,e⟩:=(show ∃ t,u=Value.bytes b t from r); cases e; rfl
 | flt b=>obtain ⟨t,e⟩:=(show ∃ t,u=Value.float b t from r); cases e; rfl
 | ref a=>cases (show u=Value.ref a from r); rfl
 | ty n=>cases (show u=Value.type n from r); rfl
section
variable {P:Program} {w:World} {H H':Hp} {h h':Heap} {a C dx:Addr} {fs fs':List (Str × V)}
theorem ins_get (hok:HOk P w H h) (e:H a=some (.ins C dx fs)):∃ mA,ObjM h a dx C mA∧(∀ f,RelO (fs.lookup f) (mA f))∧PySem.Within mA (fs.map (·.1))∧fs.length≤1000∧H dx=some (.own a):=by
 obtain ⟨d,z,ne,ob,mA,n,r,q⟩:=(show ObjOk P w H h a (.ins C dx fs) from hok a _ e)
 exact ⟨mA,⟨ob,n,ne⟩,r,q,z,d⟩
end
structure Cls (K:PySem.W.Frag) (C:Addr):Prop where
 pg:PySem.W.plainGet K C Str.empty=true
 hd:PySem.W.hasDictIn K C=true
 po:PySem.W.plainOver K C=true
 sa:PySem.W.findIn K (.ref C) "__setattr__"=some (some (.builtin "object.__setattr__"))
theorem Cls.get {K:PySem.W.Frag} {C:Addr} (c:Cls K C) (f:Str):PySem.W.plainGet K C f=true:=c.pg
def NoAttr (K:PySem.W.Frag) (C:Addr) (f:Str):Prop:=PySem.W.findIn K (.ref C) f=some none
theorem NoAttr.taker {K:PySem.W.Frag} {C:Addr} {f:Str} (n:NoAttr K C f):PySem.W.takerIn K C f=some none:=by
 unfold PySem.W.takerIn
 rw [show PySem.W.findIn K (.ref C) f=some none from n]
 rfl
section
variable {X:Cx} {pins:List (Addr × Obj)} {σ:St} {H:Hp} {s:Shared} {a C dx:Addr} {fs:List (Str × V)} {f:Str} {v:V} {A:Around} {E:Value→Shared→Prop}
theorem getattr_ok {b:Bool} {Q:Value→Shared→Prop} (I:Inv X pins σ H s) (e:H a=some (.ins C dx fs)) (c:Cls X.K C) (n:NoAttr X.K C f) (l:fs.lookup f=some v)
   (h:∀ u s',Inv X pins σ H s'→RelV v u→Q u s'):wpAny (model X.prog X.w) A (getAttr (.ref a) f b) Q E s:=by
 obtain ⟨mA,O,r,_,_,_⟩:=ins_get I.hok e
 obtain ⟨u,hu,ru⟩:=RelO.some_of (v:=v) (o:=mA f) (by rw [← l]; exact r f)
 exact get_map I.kIn O (c.get f) c.hd n hu (handed_of ru) (h u _ (I.tok _) ru)
theorem setattr_ok {y:V} {u:Value} {Q:Unit→Shared→Prop} (I:Inv X pins σ H s) (e:H a=some (.ins C dx fs)) (c:Cls X.K C) (n:NoAttr X.K C f) (hl:fs.length < 1000) (ry:RelV y u)
   (h:∀ s',Inv X pins σ (upd H a (.ins C dx (putF f y fs))) s'→Q () s'):wpAny (model X.prog X.w) A (setAttr (.ref a) f u) Q E s:=by
 obtain ⟨mA,O,r,wi,_,ho⟩:=ins_get I.hok e
 have hz:(fs.map (·.1)).length≤sizeLine:=by rw [List.length_map,sizeLine_eq]; omega
 refine set_map I.kIn O c.sa c.po n.taker c.hd wi hz fun h' O' sb=>h _ ?_
 have hd:∃ o,h'.get? dx=some o:=let ⟨o,_,_,e',_⟩:=O'.ns; ⟨o,e'⟩
 refine I.write (x:=a) (e:=dx) (by rw [e]; exact True.intro) (.inr ho) (fun b q hb z=>(sb.2 b hb).trans z) hd ?_
 refine ⟨by rw [upd_ne O.ne]; exact ho,?_,O.ne,O'.obj,_,O'.ns,fun g=>?_,fun g hg=>?_⟩
 · have:=length_putF f y fs; omega
 · show RelO ((putF f y fs).lookup g) (if g=f then some u else mA g)
   rw [lookup_putF]
   by_cases q:g=f
   · rw [if_pos q,if_pos q]; exact ry
   · rw [if_neg q,if_neg q]; exact r g
 · by_cases q:g=f
   · rw [q]; exact (keys_putF f y fs).1
   · refine (keys_putF f y fs).2 g (wi g fun z=>hg ?_)
     show (if g=f then some u else mA g)=none
     rw [if_neg q]; exact z
theorem Inv.made (I:Inv X pins σ H s):Inv X pins σ (upd (upd H s.heap.objs.size (.own (s.heap.objs.size + 1))) (s.heap.objs.size + 1) (.ins C s.heap.objs.size []))
   { s with heap:=(s.heap.push PySem.W.emptyDict).push (PySem.W.instObj C s.heap.objs.size) }:=by
 have e1:(s.heap.push PySem.W.emptyDict).get? s.heap.objs.size=some PySem.W.emptyDict:=Heap.get?_push_size s.heap rfl
 have e2:((s.heap.push PySem.W.emptyDict).push (PySem.W.instObj C s.heap.objs.size)).get? (s.heap.objs.size + 1)=some (PySem.W.instObj C s.heap.objs.size):=by
   have:=Heap.get?_push_size (s.heap.push PySem.W.emptyDict) (o:=PySem.W.instObj C s.heap.objs.size) rfl
   rwa [Heap.size_push] at this
 have e3:(s.heap.push PySem.W.emptyDict).Ns s.heap.objs.size (fun _=>none):=⟨PySem.W.emptyDict,#[],_,e1,rfl,(fun e he=>absurd he (by simp)),fun _=>rfl⟩
 have I1:=I.laid (a:=s.heap.objs.size) (o:=.own (s.heap.objs.size + 1)) (h':=s.heap.push PySem.W.emptyDict) (t':=s.toks) (fun b u q=>Heap.get?_push_of_some _ q) (Nat.le_refl _) ⟨_,e1⟩
 refine I1.laid (a:=s.heap.objs.size + 1) (o:=.ins C s.heap.objs.size []) (t':=s.toks) (fun b u q=>Heap.get?_push_of_some _ q) (Nat.le_of_eq (Heap.size_push _ _)) ?_
 have ne:s.heap.objs.size≠s.heap.objs.size + 1:=Nat.ne_of_lt (Nat.lt_succ_self _)
 refine ⟨by rw [upd_ne ne,upd_same],Nat.zero_le _,ne,e2,fun _=>none,(Heap.Ns1.of_empty e3).at fun o q=>Heap.get?_push_of_some _ q,fun _=>True.intro,fun y hy=>absurd rfl hy⟩
theorem attr_of {prog:Program} {w:World} {env:Env} {e:Expr} {f:Str} {pos:Pos} {s:Shared} {Q:Value→Shared→Prop} (hb:attributeBase e f env (eval e env)=eval e env)
   (h:wpAny (model prog w) A (eval e env) (fun o s₁=>wpAny (model prog w) A (getAttr o f true) Q E s₁) E s):wpAny (model prog w) A (eval (.Attribute e f pos) env) Q E s :=
 Attribute_any_ h (by rw [arm_eval_Attribute,hb])
end
def tFld (K:PySem.W.Frag) (ta:TE) (f:Str):TE:=fun σ H Q=>ta σ H fun x H1=>∃ a C dx fs v,x=.ref a∧H1 a=some (.ins C dx fs)∧Cls K C∧NoAttr K C f∧fs.lookup f=some v∧Q v H1
def sFld (K:PySem.W.Frag) (ta tv:TE) (f:Str):TS:=fun D σ H=>tv σ H fun y H1=>ta σ H1 fun x H2=>∃ a C dx fs,x=.ref a∧H2 a=some (.ins C dx fs)∧Cls K C∧NoAttr K C f∧fs.length < 1000 ∧
 D.nx σ (upd H2 a (.ins C dx (putF f y fs)))
section
variable {X:Cx} {o e value:Expr} {f:Str} {pos pos' tpos:Pos} {ta tv:TE}
theorem pe_fld (he:PE X e ta) (hb:attributeBase e f X.env (eval e X.env)=eval e X.env):PE X (.Attribute e f pos) (tFld X.K ta f):=by
 intro pins s σ H Q I h
 refine attr_of hb (thnE (he pins s σ H _ I h) fun u s1 x H1 I1 rx ⟨a,C,dx,fs,v,ex,ea,c,n,l,q⟩=>?_)
 subst ex
 obtain rfl:u=Value.ref a:=rx
 exact getattr_ok I1 ea c n l fun u' s2 I2 ru=>⟨v,H1,I2,ru,q⟩
theorem ps_fld (ha:PE X o ta) (hv:PE X value tv) (hs:swapsWith value (some (.Attribute o f pos')) pos.line X.env=pure false):PS X (.Assign [.Attribute o f pos'] value pos) (sFld X.K ta tv f):=by
 intro pins s σ H D I h
 refine plainObj_wpAny_Assign_Attribute (thnE (hv pins s σ H _ I h) fun u s1 y H1 I1 ry q=>thnE (ha pins s1 σ H1 _ I1 q) fun ov s2 x H2 I2 rx ⟨a,C,dx,fs,ex,ea,c,n,l,q2⟩=>?_) hs
 subst ex
 obtain rfl:ov=Value.ref a:=rx
 exact setattr_ok I2 ea c n l ry fun s3 I3=>⟨σ,_,I3,q2⟩
end
section
variable {X:Cx} {pins:List (Addr × Obj)} {σ:St} {H:Hp} {s:Shared} {A:Around} {E:Value→Shared→Prop} {Q:Value→Shared→Prop} {c:Value} {b:Bool}
end
end L2
namespace L2
open PySem PySem.Spec PyProof.Rows
structure Room (k:Nat) (A:Around):Prop where
 hd:A.handled=none
 dp:A.depth + 3 * k + 5 < recursionLimit
 un:A.units + 16 * k + 200 < cLine
theorem Room.mono {j k:Nat} {A:Around} (r:Room k A) (h:j≤k):Room j A:=⟨r.hd,by have:=r.dp; omega,by have:=r.un; omega⟩
theorem Room.deeper {k:Nat} {A:Around} (r:Room (k + 1) A) (env:Env):Room k (A.deeper env) :=
 ⟨r.hd,by have:=r.dp; show A.depth + 1 + 3 * k + 5 < _; omega,by have:=r.un; show A.units + 3 + 16 * k + 200 < _; omega⟩
theorem make_depth {A:Around} {C:Addr} {us:List Value} {kw:List (Str × Value)}:(A.under (.builtin "type.__call__" ⟨.ref C :: us,kw⟩)).depth=A.depth + 1:=by
 first | rfl | simp [Around.under,Code.weight,Code.isCreation,Code.isGuard,Code.isCaller,Code.frames,Code.isFrame,guardIds]
theorem make_units {A:Around} {C:Addr} {us:List Value} {kw:List (Str × Value)}:(A.under (.builtin "type.__call__" ⟨.ref C :: us,kw⟩)).units=A.units + 1:=by
 first | rfl | simp [Around.under,Code.cUnits,Code.frames,Code.isFrame]
theorem Room.make {k:Nat} {A:Around} (r:Room (k + 1) A) (C:Addr) (us:List Value) (kw:List (Str × Value)):Room k (A.under (.builtin "type.__call__" ⟨.ref C :: us,kw⟩)) :=
 ⟨r.hd,by have:=r.dp; rw [make_depth]; omega,by have:=r.un; rw [make_units]; omega⟩
theorem Room.depth {k:Nat} {A:Around} (r:Room k A):A.depth < recursionLimit:=by have:=r.dp; omega
theorem Room.units {k:Nat} {A:Around} (r:Room k A):A.units + 64 < cLine:=by have:=r.un; omega
def tNil:TA:=fun _ H Q=>Q [] H
def tCons (ta:TE) (tr:TA):TA:=fun σ H Q=>ta σ H fun x H1=>tr σ H1 fun xs H2=>Q (x :: xs) H2
section
variable {X:Cx} {e:Expr} {es:List Expr} {te:TE} {t:TA} {pos:Pos}
theorem pa_nil:PA X [] tNil:=fun _ _ _ _ H Q I h=>Calls.spliced_nil ⟨[],H,I,.nil,h⟩
theorem pa_cons (ha:PE X e te) (hr:PA X es t) (hs:starEach (e :: es) X.env=(false,eval e X.env) :: starEach es X.env:=by rfl):PA X (e :: es) (tCons te t):=by
 intro pos pins s σ H Q I h
 rw [hs]
 show wpAny _ _ (spliced ((false,eval e X.env) :: backTo pos (starEach es X.env))) _ _ s
 refine Calls.spliced_cons (thnE (ha pins s σ H _ I h) fun u s1 x H1 I1 r1 q1=>?_)
 exact thnA (hr pos pins s1 σ H1 _ I1 q1) fun us s2 xs H2 I2 r2 q2=>⟨x :: xs,H2,I2,.cons r1 r2,q2⟩
def tTup (t:TA):TE:=fun σ H Q=>t σ H fun xs H1=>xs.length≤sizeLine∧∀ p,H1 p=none→Q (.ref p) (upd H1 p (.tup xs))
def tLst (t:TA):TE:=fun σ H Q=>t σ H fun xs H1=>xs.length≤sizeLine∧∀ p,H1 p=none→Q (.ref p) (upd H1 p (.lst xs))
theorem pe_tup {x1} (h:PA X es t):PE X (.Tuple es x1 pos) (tTup t):=by
 intro pins s σ H Q I hq
 refine wpAny_Tuple_spliced (thnA (h pos pins s σ H _ I hq) fun us s1 xs H1 I1 r ⟨z,q⟩=>⟨by rw [← r.length]; exact z,?_⟩)
 have hf:H1 s1.heap.objs.size=none:=I1.hok.fresh (Nat.le_refl _)
 refine ⟨.ref s1.heap.objs.size,upd H1 s1.heap.objs.size (.tup xs),I1.laid (t':=s1.toks) (fun b u e=>Heap.get?_push_of_some _ e) (Nat.le_refl _) ?_,rfl,q _ hf⟩
 exact ⟨z,us,r,⟨_,Heap.get?_push_size _ rfl,rfl,_,rfl⟩⟩
theorem pe_lst (h:PA X es t):PE X (.List es pos) (tLst t):=by
 intro pins s σ H Q I hq
 refine wpAny_List_spliced (thnA (h pos pins s σ H _ I hq) fun us s1 xs H1 I1 r ⟨z,q⟩=>⟨by rw [← r.length]; exact z,?_⟩)
 have hf:H1 s1.heap.objs.size=none:=I1.hok.fresh (Nat.le_refl _)
 refine ⟨.ref s1.heap.objs.size,upd H1 s1.heap.objs.size (.lst xs),I1.laid (t':=s1.toks) (fun b u e=>Heap.get?_push_of_some _ e) (Nat.le_refl _) ?_,rfl,q _ hf⟩
 exact ⟨z,us,0,r,Heap.get?_push_size _ rfl⟩
end
abbrev Sp:=List V→Hp→VK→XK→Prop
abbrev CXT:=List Env→Hp→Shared→XK→Value→Shared→Prop
structure Env0 (P:Program) (w:World) (K:PySem.W.Frag) (mg:Str→Option Value) (base:Heap) (A:Around) (outer:List Env) (s:Shared) (H:Hp):Prop where
 frames:A.frames=some outer
 mod:Mod K mg base
 bs:∀ b o,base.get? b=some o→s.heap.get? b=some o∧H b=none
 bsz:base.objs.size≤s.heap.objs.size
 funs:s.heap.FunFrames base outer
 frf:∀ b∈frs outer,H b=none
 hok:HOk P w H s.heap
 bare:AllBare s.gens
def CE (outer:List Env) (P:Program) (w:World) (H:Hp) (s:Shared) (Q:VK) (u:Value) (s':Shared):Prop :=
 ∃ v H',s'.os=s.os∧AllBare s'.gens∧Un (frs outer) [] H H' s.heap s'.heap∧HOk P w H' s'.heap∧RelV v u∧Q v H'
def CR (CX:CXT) (outer:List Env) (P:Program) (w:World) (H:Hp) (s:Shared) (Q:VK) (E:XK) (r:Result) (s':Shared):Prop :=
 match r with
 | .ok (.ret u)=>CE outer P w H s Q u s'
 | .ok _=>False
 | .error e=>CX outer H s E e s'
structure FnOk (P:Program) (w:World) (K:PySem.W.Frag) (mg:Str→Option Value) (base:Heap) (CX:CXT) (k:Nat) (f:Addr) (fd:FuncData) (ps:List Str) (sp:Sp):Prop where
 len:∀ vs H Q E,sp vs H Q E→vs.length=ps.length
 run:∀ (A:Around) (outer:List Env) (s:Shared) (H:Hp) (args:Args) (us:List Value) (vs:List V) (Q:VK) (E:XK),Room k A→Env0 P w K mg base A outer s H→BindsTo s fd args (ps.zip us)→Vals vs us→sp vs H Q E →
   codeAny (model P w) A (.call (.ref f) args) (CR CX outer P w H s Q E) s
theorem Env0.make {P:Program} {w:World} {K:PySem.W.Frag} {mg:Str→Option Value} {base:Heap} {A:Around} {outer:List Env} {s:Shared} {H:Hp} (e:Env0 P w K mg base A outer s H) (C:Addr) (us:List Value) (kw:List (Str × Value)) :
   Env0 P w K mg base (A.under (.builtin "type.__call__" ⟨.ref C :: us,kw⟩)) outer s H:=⟨by first | exact e.frames | (simpa [Around.under,Code.envs,Code.isFrame,pushEnvs] using e.frames),e.mod,e.bs,e.bsz,e.funs,e.frf,e.hok,e.bare⟩
section
variable {X:Cx} {pins:List (Addr × Obj)} {σ:St} {H:Hp} {s s':Shared}
theorem Inv.env0 (I:Inv X pins σ H s):Env0 X.prog X.w X.K X.mg X.base X.A X.stack s H :=
 ⟨I.ok.frames,I.ok.mod,I.bs,Nat.le_trans I.ok.bsz I.sz,I.stack,I.stkFree,I.hok,I.bare⟩
theorem Inv.after {Q:VK} {u:Value} (I:Inv X pins σ H s) (h:CE X.stack X.prog X.w H s Q u s'):EP X pins σ Q u s':=by
 obtain ⟨v,H',os,bare,un,hok,r,q⟩:=h
 obtain ⟨hh,g,d,t,os'⟩:=s'
 obtain rfl:os'=s.os:=os
 exact ⟨v,H',I.call (h':=hh) (g':=g) (d':=d) (t':=t) (ch:=[]) un hok bare (fun b z=>absurd z (by simp)),r,q⟩
end
def tCall (sp:Sp) (dvs:List V) (E:XK) (t:TA):TE:=fun σ H Q=>t σ H fun vs H1=>sp (vs ++ dvs) H1 Q E
def tMake (C:Addr) (sp:Sp) (dvs:List V) (E:XK) (t:TA):TE:=fun σ H Q=>t σ H fun vs H1=>∀ x dx,H1 x=none→H1 dx=none→dx≠x →
 sp (.ref x :: (vs ++ dvs)) (upd (upd H1 dx (.own x)) x (.ins C dx [])) (fun v H2=>v=.non∧Q (.ref x) H2) E
def Binds (K:PySem.W.Frag) (fd:FuncData) (ps:List Str) (ds:List Value):Prop :=
 ∀ (s:Shared) (us:List Value),K.In s.heap→(us ++ ds).length=ps.length→BindsTo s fd ⟨us,[]⟩ (ps.zip (us ++ ds))
theorem Binds.all {K:PySem.W.Frag} {fd:FuncData} {ps:List Str} (h:∀ us:List Value,us.length=ps.length→bindArgs fd ⟨us,[]⟩=pure (ps.zip us)):Binds K fd ps []:=fun s us _ hl=>by
 rw [List.append_nil] at hl ⊢
 exact .of_eq (h us hl)
def Passes (CX:CXT) (X:Cx) (E:XK):Prop:=∀ (pins:List (Addr × Obj)) (σ:St) (H:Hp) (s:Shared) (e:Value) (s':Shared),Inv X pins σ H s→CX X.stack H s E e s'→X.xe e s'
section
variable {X:Cx} {CX:CXT} {k:Nat} {f C:Addr} {fd:FuncData} {ps:List Str} {sp:Sp} {dvs:List V} {ds:List Value} {E:XK} {x m:Str} {p pos apos:Pos} {e o:Expr} {es:List Expr} {ta:TE} {t:TA}
theorem run_fn {pins:List (Addr × Obj)} {σ:St} {H:Hp} {s:Shared} {Q:VK} {us:List Value} {vs:List V} (F:FnOk X.prog X.w X.K X.mg X.base CX k f fd ps sp) (hr:Room k X.A) (hb:Binds X.K fd ps ds) (hd:Vals dvs ds) (hx:Passes CX X E)
   (I:Inv X pins σ H s) (r:Vals vs us) (h:sp (vs ++ dvs) H Q E):wpAny (model X.prog X.w) X.A (call (.ref f) us) (EP X pins σ Q) X.xe s:=by
 have r2:Vals (vs ++ dvs) (us ++ ds):=r.append hd
 have hl:(us ++ ds).length=ps.length:=by rw [← r2.length]; exact F.len _ _ _ _ h
 refine wpAny_call (codeAny_mono (F.run X.A X.stack s H ⟨us,[]⟩ (us ++ ds) (vs ++ dvs) Q E hr I.env0 (hb s us I.kIn hl) r2 h) fun r s' hq=>?_)
 cases r with
 | error e=>exact hx pins σ H s e s' I hq
 | ok fl =>
   cases fl with
   | ret u=>exact I.after hq
   | next=>exact False.elim hq
   | brk=>exact False.elim hq
   | cont=>exact False.elim hq
theorem pe_call (F:FnOk X.prog X.w X.K X.mg X.base CX k f fd ps sp) (hr:Room k X.A) (hg:Gl X x) (hm:X.mg x=some (.ref f)) (hk:PySem.W.keepIn X.K (.ref f)=true) (hb:Binds X.K fd ps ds) (hd:Vals dvs ds) (hx:Passes CX X E)
   (ha:PA X (e :: es) t) (hdb:(x == ("__debug__":Str))=false:=by decide) (he:starEach (e :: es) X.env=(false,eval e X.env) :: starEach es X.env:=by rfl) (hpl:(backTo pos (starEach es X.env)).any (·.1)=false:=by rfl) :
   PE X (.Call (.Name x p) (e :: es) [] pos) (tCall sp dvs E t):=by
 intro pins s σ H Q I h
 refine wpAny_Call_Name_kw (ld_glob I hg hm ?_ hdb)
 refine PySem.W.callWith_K (h₀:=X.base) I.ok.mod.kin hk (thnA (ha pos pins s σ H _ I h) fun us s1 vs H1 I1 r q=>⟨I1.kIn,?_⟩) he hpl
 exact run_fn F hr hb hd hx I1 r q
structure Mk (K:PySem.W.Frag) (C f:Addr):Prop where
 makes:PySem.W.makesIn K C=true
 init:PySem.W.findIn K (.ref C) "__init__"=some (some (.ref f))
 fn:PySem.W.isFn K (.ref f)=true
 kp:PySem.W.keepIn K (.ref C)=true
theorem run_make {pins:List (Addr × Obj)} {σ:St} {H:Hp} {s:Shared} {Q:VK} {us:List Value} {vs:List V} (M:Mk X.K C f) (F:FnOk X.prog X.w X.K X.mg X.base CX k f fd ps sp) (hr:Room (k + 1) X.A) (hb:Binds X.K fd ps ds) (hd:Vals dvs ds)
   (hx:Passes CX X E) (I:Inv X pins σ H s) (r:Vals vs us)
   (h:∀ x dx,H x=none→H dx=none→dx≠x→sp (.ref x :: (vs ++ dvs)) (upd (upd H dx (.own x)) x (.ins C dx [])) (fun v H2=>v=.non∧Q (.ref x) H2) E) :
   wpAny (model X.prog X.w) X.A (call (.ref C) us) (EP X pins σ Q) X.xe s:=by
 have hq:=h (s.heap.objs.size + 1) s.heap.objs.size (I.hok.fresh (Nat.le_succ _)) (I.hok.fresh (Nat.le_refl _)) (Nat.ne_of_lt (Nat.lt_succ_self _))
 have I2:=Inv.made (C:=C) I
 have r2:Vals (V.ref (s.heap.objs.size + 1) :: (vs ++ dvs)) (Value.ref (s.heap.objs.size + 1) :: (us ++ ds)):=.cons rfl (r.append hd)
 have hl:(Value.ref (s.heap.objs.size + 1) :: us ++ ds).length=ps.length:=by
   have e:=r2.length
   rw [F.len _ _ _ _ hq] at e
   exact e.symm
 refine wpAny_call (make_map (f:=f) I.kIn M.makes M.init (beq_iff_eq.mp M.fn) (codeAny_mono (F.run _ X.stack _ _ ⟨Value.ref (s.heap.objs.size + 1) :: us,[]⟩ (Value.ref (s.heap.objs.size + 1) :: (us ++ ds)) _ _ E (hr.make C us [])
   (I2.env0.make C us []) (hb _ (Value.ref (s.heap.objs.size + 1) :: us) I2.kIn hl) r2 hq) fun r s' hq'=>?_))
 cases r with
 | error e=>exact hx pins σ _ _ e s' I2 hq'
 | ok fl =>
   cases fl with
   | ret u =>
     obtain ⟨v,H',I3,rv,ev,q3⟩:=I2.after hq'
     subst ev
     exact ⟨rv,⟨V.ref (s.heap.objs.size + 1),H',I3,rfl,q3⟩⟩
   | next=>exact False.elim hq'
   | brk=>exact False.elim hq'
   | cont=>exact False.elim hq'
theorem pe_make (M:Mk X.K C f) (F:FnOk X.prog X.w X.K X.mg X.base CX k f fd ps sp) (hr:Room (k + 1) X.A) (hg:Gl X x) (hm:X.mg x=some (.ref C)) (hb:Binds X.K fd ps ds) (hd:Vals dvs ds) (hx:Passes CX X E)
   (ha:PA X (e :: es) t) (hdb:(x == ("__debug__":Str))=false:=by decide) (he:starEach (e :: es) X.env=(false,eval e X.env) :: starEach es X.env:=by rfl) (hpl:(backTo pos (starEach es X.env)).any (·.1)=false:=by rfl) :
   PE X (.Call (.Name x p) (e :: es) [] pos) (tMake C sp dvs E t):=by
 intro pins s σ H Q I h
 refine wpAny_Call_Name_kw (ld_glob I hg hm ?_ hdb)
 refine PySem.W.callWith_K (h₀:=X.base) I.ok.mod.kin M.kp (thnA (ha pos pins s σ H _ I h) fun us s1 vs H1 I1 r q=>⟨I1.kIn,?_⟩) he hpl
 exact run_make M F hr hb hd hx I1 r q
end
section
variable {X:Cx} {CX:CXT} {k:Nat} {f C:Addr} {fd:FuncData} {ps ks:List Str} {sp:Sp} {E:XK} {x m:Str} {p pos apos kpos:Pos} {e o:Expr} {es:List Expr} {kws:List Keyword} {te ta:TE} {t tk:TA} {nm:Option Str}
variable {g:List Value→List Value→List Value} {gV:List V→List V→List V}
end
structure FnScope (N P:List Str) (sc:Scope):Prop where
 kind:sc.kind=.function
 co:sc.isCoroutine=false
 gen:sc.isGenerator=false
 nd:N.Nodup
 pre:N.take P.length=P
 par:∀ x∈P,sc.names.lookup x=some .local∨sc.names.lookup x=some .cell
 nofree:∀ y∈sc.names,y.2≠.free
theorem bindL_out {kindOf:Str→Option NameKind} {x:Str}:∀ {binds:List (Str × Value)} {m:Str→Option Value},(∀ v,(x,v) ∉ binds)→bindL kindOf binds m x=m x
 | [],_,_=>rfl
 | (n,v) :: r,m,h=>by
   unfold bindL
   rw [bindL_out fun w hw=>h w (List.mem_cons_of_mem _ hw)]
   split
   · have:x≠n:=by rintro rfl; exact h v List.mem_cons_self
     simp [this]
   · rfl
theorem bindC_out {kindOf:Str→Option NameKind} {x:Str}:∀ {binds:List (Str × Value)} {m:Str→Option Value},(∀ v,(x,v) ∉ binds)→bindC kindOf binds m x=m x
 | [],_,_=>rfl
 | (n,v) :: r,m,h=>by
   unfold bindC
   rw [bindC_out fun w hw=>h w (List.mem_cons_of_mem _ hw)]
   split
   · rfl
   · have:x≠n:=by rintro rfl; exact h v List.mem_cons_self
     simp [this]
theorem bindL_get {kindOf:Str→Option NameKind} {x:Str} {v:Value}:∀ {P:List Str} {vs:List Value} {i:Nat} {m:Str→Option Value},P.Nodup→P[i]?=some x→vs[i]?=some v→kindOf x=some .local →
   bindL kindOf (P.zip vs) m x=some v
 | [],_,_,_,_,h,_,_=>by simp at h
 | _ :: _,[],_,_,_,_,h,_=>by simp at h
 | p :: P,w :: vs,0,m,nd,h1,h2,hk=>by
   simp at h1 h2; subst h1; subst h2
   show bindL kindOf ((p,w) :: P.zip vs) m p=_
   unfold bindL
   rw [bindL_out fun v hv=>(List.nodup_cons.mp nd).1 (List.of_mem_zip hv).1,if_pos hk]
   simp
 | p :: P,w :: vs,i + 1,m,nd,h1,h2,hk=>by
   show bindL kindOf ((p,w) :: P.zip vs) m x=_
   unfold bindL
   exact bindL_get (i:=i) (List.nodup_cons.mp nd).2 (by simpa using h1) (by simpa using h2) hk
theorem bindC_get {kindOf:Str→Option NameKind} {x:Str} {v:Value}:∀ {P:List Str} {vs:List Value} {i:Nat} {m:Str→Option Value},P.Nodup→P[i]?=some x→vs[i]?=some v→kindOf x≠some .local →
   bindC kindOf (P.zip vs) m x=some v
 | [],_,_,_,_,h,_,_=>by simp at h
 | _ :: _,[],_,_,_,_,h,_=>by simp at h
 | p :: P,w :: vs,0,m,nd,h1,h2,hk=>by
   simp at h1 h2; subst h1; subst h2
   show bindC kindOf ((p,w) :: P.zip vs) m p=_
   unfold bindC
   rw [bindC_out fun v hv=>(List.nodup_cons.mp nd).1 (List.of_mem_zip hv).1,if_neg hk]
   simp
 | p :: P,w :: vs,i + 1,m,nd,h1,h2,hk=>by
   show bindC kindOf ((p,w) :: P.zip vs) m x=_
   unfold bindC
   exact bindC_get (i:=i) (List.nodup_cons.mp nd).2 (by simpa using h1) (by simpa using h2) hk
def start (N:List Str) (vs:List V):St:=vs.map some ++ List.replicate (N.length - vs.length) none
def cxOf (CX:CXT) (P:Program) (w:World) (K:PySem.W.Frag) (mg:Str→Option Value) (base:Heap) (N:List Str) (qual:Str) (scope:Scope) (f:Addr) (cd:Value) (A:Around) (outer:List Env) (s:Shared) (H:Hp) (E:XK):Cx where
 prog:=P
 w:=w
 K:=K
 mg:=mg
 base:=base
 A:=A.deeper (envOfC qual scope s.heap.objs.size f cd)
 N:=N
 s₀:=s
 H₀:=H
 env:=envOfC qual scope s.heap.objs.size f cd
 outer:=outer
 stack:=envOfC qual scope s.heap.objs.size f cd :: outer
 ex:=[]
 calm:=true
 fn:=fun _=>true
 pn:=[]
 xe:=fun e s'=>wpAny (model P w) (A.deeper (envOfC qual scope s.heap.objs.size f cd)) (leaving (envOfC qual scope s.heap.objs.size f cd) e) (fun _ s''=>CX outer H s E e s'') (fun e' s''=>CX outer H s E e' s'') s'
theorem cell_has {sc:Scope} {n:Nat} {x:Str} (h:sc.names.lookup x=some .cell):∃ c,(cellsFrom n sc.names []).lookup x=some c:=by
 have q:=PySem.W.cellsFrom_some sc.names n [] (.inl h)
 exact Option.isSome_iff_exists.mp q
theorem inv_start {CX:CXT} {P:Program} {w:World} {K:PySem.W.Frag} {mg:Str→Option Value} {base:Heap} {N ps:List Str} {qual:Str} {scope:Scope} {f:Addr} {cd:Value} {A:Around} {outer:List Env} {s s1:Shared} {H:Hp} {E:XK} {us:List Value} {vs:List V}
   (S:FnScope N ps scope) (hd:A.handled=none) (e0:Env0 P w K mg base A outer s H) (hl:vs.length=ps.length) (r:Vals vs us)
   (x:InCallC s s.heap.objs.size (bindL (envOfC qual scope s.heap.objs.size f cd).kindOf (ps.zip us) fun _=>none) (cellsFrom (s.heap.objs.size + 1) scope.names []) (bindC (envOfC qual scope s.heap.objs.size f cd).kindOf (ps.zip us) fun _=>none) s1) :
   Inv (cxOf CX P w K mg base N qual scope f cd A outer s H E) [] (start N vs) H s1:=by
 have hpl:ps.length≤N.length:=by have:=congrArg List.length S.pre; rw [List.length_take] at this; omega
 obtain ⟨h1,tk,rfl,hk⟩:=x.done
 have noA:∀ b:Addr,b ∉ (cxOf CX P w K mg base N qual scope f cd A outer s H E).ex:=fun b z=>absurd (show b∈([]:List Addr) from z) (by simp)
 refine ⟨⟨e0.mod,S.kind,rfl,rfl,Nat.le_refl _,fun y z c h1 h2=>?_,fun y hy=>?_,fun y c _ h=>?_,fun _=>hd,Around.frames_deeper e0.frames,.inr ⟨rfl,rfl⟩,fun b z=>absurd z (noA b),e0.bs,e0.bsz,fun b _ _=>noA b,fun b z=>absurd z (noA b),e0.funs,e0.frf⟩,
   rfl,e0.bare,Un.kept hk,⟨_,x.toInCall.ns,fun i y v h1 h2 h3=>?_⟩,fun y c h=>⟨_,x.cell y c h⟩,e0.hok.fresh (Nat.le_refl _),fun y c h=>?_,fun p hp=>absurd (show p∈([]:List (Addr × Obj)) from hp) (by simp),e0.hok.kept hk,?_⟩
 · exact name_of_addr x.apart (PySem.mem_of_lookup h1) (PySem.mem_of_lookup h2)
 · have hy:scope.names.lookup y=some .cell∨scope.names.lookup y=some .free:=hy
   rcases hy with hy | hy
   · exact cell_has hy
   · exact absurd rfl (S.nofree _ (PySem.mem_of_lookup hy))
 · exact Nat.le_of_lt (x.above y c (PySem.mem_of_lookup h))
 · have hi:i < vs.length:=by
     unfold start at h2
     by_cases hi:i < vs.length
     · exact hi
     · rw [List.getElem?_append_right (by simpa using hi)] at h2
       rw [List.getElem?_replicate] at h2
       split at h2 <;> cases h2
   have ha:vs[i]?=some v:=by
     unfold start at h2
     rw [List.getElem?_append_left (by simpa using hi),List.getElem?_map] at h2
     cases e:vs[i]? with
     | none=>rw [e] at h2; cases h2
     | some a=>rw [e] at h2; cases h2; rfl
   obtain ⟨u,hu,rv⟩:=r.get ha
   have hp:ps[i]?=some y:=by
     rw [← S.pre,List.getElem?_take_of_lt (by omega)]; exact h1
   have ndP:ps.Nodup:=by rw [← S.pre]; exact S.nd.sublist (List.take_sublist _ _)
   refine ⟨u,rv,?_⟩
   rcases S.par y (List.mem_of_getElem? hp) with k | k
   · exact .inl ⟨k,bindL_get ndP hp hu k⟩
   · obtain ⟨c,e⟩:=cell_has (n:=s.heap.objs.size + 1) k
     refine .inr ⟨.inl k,c,e,?_⟩
     have q:=x.cell y c e
     rw [bindC_get ndP hp hu (by show scope.names.lookup y≠_; rw [k]; decide)] at q
     exact q
 · exact e0.hok.fresh (Nat.le_of_lt (x.above y c (PySem.mem_of_lookup h)))
 · unfold start
   show _=N.length
   rw [List.length_append,List.length_map,List.length_replicate]
   omega
theorem fn_of {CX:CXT} {P:Program} {w:World} {K:PySem.W.Frag} {mg:Str→Option Value} {base:Heap} {k:Nat} {f:Addr} {name qual:Str} {params:Arguments} {body:List Stmt} {scope:Scope} {dV kV doc pm cdv ct oc:Value} {an od:Option Addr}
   {osl:Array (Option Value)} {N ps:List Str} {sp:Sp} (lk:K.lookup f=some ⟨oc,od,.func (PySem.W.fnOf name qual params body scope dV kV doc pm an cdv ct),osl⟩) (hcd:PySem.W.codeIn K cdv qual=true) (S:FnScope N ps scope)
   (len:∀ vs H Q E,sp vs H Q E→vs.length=ps.length)
   (hbody:∀ (A:Around) (outer:List Env) (s:Shared) (H:Hp) (vs:List V) (Q:VK) (E:XK),Room k (A.deeper (envOfC qual scope s.heap.objs.size f cdv))→sp vs H Q E →
     ∃ t,PSs (cxOf CX P w K mg base N qual scope f cdv A outer s H E) body t∧t { nx:=fun _ H'=>Q .non H',rt:=Q } (start N vs) H) :
   FnOk P w K mg base CX (k + 1) f (PySem.W.fnOf name qual params body scope dV kV doc pm an cdv ct) ps sp:=by
 refine ⟨len,fun A outer s H args us vs Q E hr e0 hb r hsp=>?_⟩
 have hl:=len _ _ _ _ hsp
 have KX:K.In s.heap:=e0.mod.kin.keeps fun b o e=>(e0.bs b o e).1
 have lim:s.heap.NoLimit:=e0.mod.nolimit.keeps fun b o e=>(e0.bs b o e).1
 have hkind:∀ y∈ps.zip us,scope.names.lookup y.1=some .local∨(scope.names.lookup y.1=some .cell∧((cellsFrom (s.heap.objs.size + 1) scope.names []).lookup y.1).isSome=true):=fun ⟨n,v⟩ hy=>by
   rcases S.par n (List.of_mem_zip hy).1 with q | q
   · exact .inl q
   · exact .inr ⟨q,PySem.W.cellsFrom_some _ _ _ (.inl q)⟩
 refine codeAny_call_function hr.depth (KX _ _ lk) rfl S.co S.gen rfl (PySem.W.codeRec_of KX hcd) (hb _ _ _ _ ?_)
 refine wpAny_newFunctionEnv_cells S.kind hkind fun env he s1 x=>?_
 subst he
 refine ⟨lim.keeps x.toInCall.keep,codeAny_func ?_⟩
 obtain ⟨t,ht,hq⟩:=hbody A outer s H vs Q E (hr.deeper _) hsp
 have I:Inv (cxOf CX P w K mg base N qual scope f cdv A outer s H E) [] (start N vs) H s1:=inv_start S hr.hd e0 hl r x
 refine wpAny_mono (ht [] s1 (start N vs) H _ I hq) (fun fl s' hs=>?_) fun e s' hs=>hs
 have fin:∀ {σ':St} {H':Hp} {v:V} {u:Value},Inv (cxOf CX P w K mg base N qual scope f cdv A outer s H E) [] σ' H' s'→RelV v u→Q v H'→CE outer P w H s Q u s' :=
   fun {σ' H' v u} J rv q=>⟨v,H',J.os,J.bare,J.base,J.hok,rv,q⟩
 cases fl with
 | ret u =>
   obtain ⟨v,σ',H',J,rv,q⟩:=hs
   exact fin J rv q
 | next =>
   obtain ⟨σ',H',J,q⟩:=hs
   exact fin (v:=V.non) (u:=Value.none) J rfl q
 | brk =>
   obtain ⟨_,_,_,q⟩:=hs
   exact False.elim q
 | cont =>
   obtain ⟨_,_,_,q⟩:=hs
   exact False.elim q
end L2
namespace L2
open PySem PySem.Spec PyProof.Rows
section
variable {X:Cx} {x:Str} {p pos:Pos} {e:Expr} {es:List Expr} {t:TA} {id T:String} {r:List V→Hp→VK→Prop}
def tCB (r:List V→Hp→VK→Prop) (t:TA):TE:=fun σ H Q=>t σ H fun vs H1=>r vs H1 Q
theorem pe_callB (hc:CallR X (.builtin id) r) (hg:Gl X x) (hm:X.mg x=none) (hv:bootBuiltins x=some (.builtin id)) (ha:PA X (e :: es) t) (hn:x≠"__name__":=by decide) (hdb:(x == ("__debug__":Str))=false:=by decide)
   (he:starEach (e :: es) X.env=(false,eval e X.env) :: starEach es X.env:=by rfl) (hpl:(backTo pos (starEach es X.env)).any (·.1)=false:=by rfl):PE X (.Call (.Name x p) (e :: es) [] pos) (tCB r t):=by
 intro pins s σ H Q I h
 refine wpAny_Call_Name_kw (ld_blt I hg hm hv ?_ hn hdb)
 exact PyProof.Rows.callWith_builtin1 (thnA (ha pos pins s σ H _ I h) fun us s1 vs H1 I1 r1 q1=>hc pins s1 σ H1 vs us Q I1 r1 q1) he hpl
theorem pe_callTy (hc:CallR X (.type T) r) (hg:Gl X x) (hm:X.mg x=none) (hv:bootBuiltins x=some (.type T)) (ha:PA X (e :: es) t) (hn:x≠"__name__":=by decide) (hdb:(x == ("__debug__":Str))=false:=by decide)
   (he:starEach (e :: es) X.env=(false,eval e X.env) :: starEach es X.env:=by rfl) (hpl:(backTo pos (starEach es X.env)).any (·.1)=false:=by rfl):PE X (.Call (.Name x p) (e :: es) [] pos) (tCB r t):=by
 intro pins s σ H Q I h
 refine wpAny_Call_Name_kw (ld_blt I hg hm hv ?_ hn hdb)
 exact PyProof.Rows.callWith_type1 (thnA (ha pos pins s σ H _ I h) fun us s1 vs H1 I1 r1 q1=>hc pins s1 σ H1 vs us Q I1 r1 q1) he hpl
end
end L2
namespace HT
open PySem PyProof.Rows
section
open PySem.SeqAt
open PySem.AutoSeq1 (wpAny_loadPart')
open PySem.MeetsSeq PySem.MeetsSeq2 PySem.MeetsSeq3
end
section
variable {prog:Program} {w:World} {A:Around} {E:Value→Shared→Prop} {s:Shared}
end
end HT
namespace L2
open PySem PySem.Spec PyProof.Rows
abbrev TO:=St→Hp→(Option Int→Hp→Prop)→Prop
def PO (X:Cx) (e:Option Expr) (t:TO):Prop :=
 ∀ (pins:List (Addr × Obj)) (s:Shared) (σ:St) (H:Hp) (Q:Option Int→Hp→Prop),Inv X pins σ H s→t σ H Q →
   wpAny (model X.prog X.w) X.A (evalPart e X.env) (fun u s'=>∃ o H',Inv X pins σ H' s'∧IsPart u o∧Q o H') X.xe s
section
variable {X:Cx} {e:Expr} {te:TE} {lo hi:Option Expr} {tl th:TO} {pos p2:Pos}
end
end L2
namespace L2
open PySem PySem.Spec PyProof.Rows
def ixN (n:Nat) (i:Int):Option Nat:=if 0≤i then (if i < n then some i.toNat else none) else if -(n:Int)≤i then some (i + n).toNat else none
def atI {α:Type} (xs:List α) (i:Int):Option α:=(ixN xs.length i).bind fun j=>xs[j]?
theorem ixN_seq {n:Nat} {i:Int} {j:Nat} (h:ixN n i=some j):seqIndex? i n=some j∧j < n∧-(n:Int)≤i∧i < n:=by
 unfold ixN at h
 by_cases h0:0≤i
 · rw [if_pos h0] at h
   by_cases h1:i < n
   · rw [if_pos h1] at h
     have e:i.toNat=j:=Option.some.inj h
     exact ⟨by rw [seqIndex_of h0 h1,e],by omega,by omega,h1⟩
   · rw [if_neg h1] at h; cases h
 · rw [if_neg h0] at h
   by_cases h1:-(n:Int)≤i
   · rw [if_pos h1] at h
     have e:(i + n).toNat=j:=Option.some.inj h
     exact ⟨by rw [seqIndex_neg (by omega) h1,e],by omega,h1,by omega⟩
   · rw [if_neg h1] at h; cases h
theorem atI_get {α:Type} {xs:List α} {i:Int} {v:α} (h:atI xs i=some v):∃ j,seqIndex? i xs.length=some j∧xs[j]?=some v∧j < xs.length∧-(xs.length:Int)≤i∧i < xs.length:=by
 unfold atI at h
 cases e:ixN xs.length i with
 | none=>rw [e] at h; cases h
 | some j =>
   rw [e] at h
   obtain ⟨h1,h2,h3,h4⟩:=ixN_seq e
   exact ⟨j,h1,h,h2,h3,h4⟩
theorem atI_nat {α:Type} {xs:List α} {j:Nat} {v:α} (h:xs[j]?=some v):atI xs (j:Int)=some v:=by
 have hj:j < xs.length:=(List.getElem?_eq_some_iff.mp h).1
 have e:ixN xs.length (j:Int)=some j:=by
   unfold ixN
   rw [if_pos (by omega),if_pos (by omega)]; simp
 unfold atI; rw [e]; exact h
def PlainIx (b:Expr):Prop:=∀ o i,subscripted b false o i=operate [o,i] (getItem o i)
def IxR (X:Cx) (r:R2):Prop :=
 ∀ (value slice:Expr) (pins:List (Addr × Obj)) (s:Shared) (σ:St) (H:Hp) (x y:V) (v u:Value) (Q:VK),Inv X pins σ H s→RelV x v→RelV y u→r x y H Q →
   subscripted slice false v u=operate [v,u] (getItem v u)→wpAny (model X.prog X.w) X.A (subscriptTail value slice v u) (EP X pins σ Q) X.xe s
def MtR (X:Cx) (id:String) (r:V→List V→Hp→VK→Prop):Prop :=
 ∀ (pins:List (Addr × Obj)) (s:Shared) (σ:St) (H:Hp) (x:V) (xs:List V) (v:Value) (us:List Value) (Q:VK),Inv X pins σ H s→RelV x v→Vals xs us→r x xs H Q →
   wpAny (model X.prog X.w) X.A (call (.builtin id) (v :: us)) (EP X pins σ Q) X.xe s
section
variable {X:Cx} {a b:Expr} {ta tb:TE} {pos:Pos}
theorem pe_ix {r:R2} (hr:IxR X r) (ha:PE X a ta) (hb:PE X b tb) (hs:PlainIx b):PE X (.Subscript a b pos) (tOp r ta tb):=by
 intro pins s σ H Q I h
 exact Subscript_ (binT ha hb I h fun v u s2 x y H2 I2 rx ry q=>hr a b pins s2 σ H2 x y v u Q I2 rx ry q (hs _ _))
def rIxL (K:PySem.W.Frag):R2:=fun x y H Q=>∃ p xs i v,x=.ref p∧y=.int i∧SqL K H p xs∧atI xs i=some v∧Q v H
def rIxT (K:PySem.W.Frag):R2:=fun x y H Q=>∃ p xs i v,x=.ref p∧y=.int i∧SqT K H p xs∧atI xs i=some v∧Q v H
theorem ix_list:IxR X (rIxL X.K):=by
 intro value slice pins s σ H x y v u Q I rx ry h hs
 obtain ⟨p,xs,i,z,rfl,rfl,hq,he,q⟩:=h
 cases rx
 obtain ⟨t,rfl⟩:=ry
 obtain ⟨its,r,pl,hz⟩:=I.list hq
 obtain ⟨j,h1,h2,h3,h4,h5⟩:=atI_get he
 obtain ⟨w,ew,rw'⟩:=r.get h2
 have hl:=r.length
 have hn:=line63
 have fin:EP X pins σ Q w s:=⟨z,H,I,rw',q⟩
 by_cases h0:0≤i
 · have hj:i.toNat=j:=by
     rw [seqIndex_of h0 h5] at h1
     exact Option.some.inj h1
   exact item_listR pl.isList h0 (by omega) (by rw [hj]; simpa using ew) fin hs
 · have hj:(i + (its.toArray.size:Int)).toNat=j:=by
     rw [seqIndex_neg (by omega) h4] at h1
     rw [List.size_toArray,← hl]
     exact Option.some.inj h1
   exact subscriptTail_builtinR (x:=w) pl.isList.typeIs slot_list_getitem.lookup
     (wpAny_getItem_list_neg (Q:=fun r s'=>r=w∧EP X pins σ Q r s') pl.isList (by omega) (by rw [List.size_toArray] <;> omega) (by omega) (by rw [hj]; simpa using ew) ⟨rfl,fin⟩) hs
theorem ix_tup:IxR X (rIxT X.K):=by
 intro value slice pins s σ H x y v u Q I rx ry h hs
 obtain ⟨p,xs,i,z,rfl,rfl,hq,he,q⟩:=h
 cases rx
 obtain ⟨t,rfl⟩:=ry
 obtain ⟨its,r,pl,hz⟩:=I.tuple hq
 obtain ⟨j,h1,h2,h3,h4,h5⟩:=atI_get he
 obtain ⟨w,ew,rw'⟩:=r.get h2
 have hl:=r.length
 have hn:=line63
 have fin:EP X pins σ Q w s:=⟨z,H,I,rw',q⟩
 exact subscriptTail_builtinR (x:=w) pl.typeIs slot_tuple_getitem.lookup
   (getItem_tuple (j:=j) (Q:=fun r s'=>r=w∧EP X pins σ Q r s') pl (by omega) (by omega) (by rw [List.size_toArray,← hl]; exact h1) (by simpa using ew) ⟨rfl,fin⟩) hs
theorem mapSeq_set (its:List Value) (n j:Nat) (u:Value):Obj.mapSeq (·.setIfInBounds j u) { cls:=.type "list",data:=.seq its.toArray n }={ cls:=.type "list",data:=.seq (its.set j u).toArray n }:=by
 simp [Obj.mapSeq]
theorem Inv.lst {pins:List (Addr × Obj)} {σ:St} {H:Hp} {s:Shared} {p:Addr} {xs:List V} (I:Inv X pins σ H s) (h:H p=some (.lst xs)) :
   ∃ (its:List Value) (n:Nat),Vals xs its∧s.heap.get? p=some { cls:=.type "list",data:=.seq its.toArray n }∧xs.length≤sizeLine:=by
 obtain ⟨z,its,n,r,e⟩:=I.hok p _ h
 exact ⟨its,n,r,e,z⟩
theorem Inv.lstUpd {pins:List (Addr × Obj)} {σ:St} {H:Hp} {s:Shared} {p:Addr} {xs ys:List V} {its its':List Value} {n n':Nat} {f:Obj→Obj} (I:Inv X pins σ H s) (h:H p=some (.lst xs))
   (ho:s.heap.get? p=some { cls:=.type "list",data:=.seq its.toArray n }) (hf:f { cls:=.type "list",data:=.seq its.toArray n }={ cls:=.type "list",data:=.seq its'.toArray n' }) (r:Vals ys its') (hz:ys.length≤sizeLine) (t:Nat) :
   Inv X pins σ (upd H p (.lst ys)) { s with heap:=s.heap.update p f,toks:=t }:=by
 have e:(s.heap.update p f).get? p=some { cls:=.type "list",data:=.seq its'.toArray n' }:=by
   rw [Heap.get?_update_self f ho (by rw [hf] <;> rfl),hf]
 refine I.write (x:=p) (e:=p) (by rw [h]; trivial) (.inl rfl) (fun b u hb q=>(Heap.get?_update_other _ _ (Ne.symm hb)).trans q) ⟨_,e⟩ ?_
 exact ⟨hz,its',n',r,e⟩
def rSetL:V→V→V→Hp→(Hp→Prop)→Prop:=fun o i v H Q=>∃ p xs k j,o=.ref p∧i=.int k∧H p=some (.lst xs)∧ixN xs.length k=some j∧Q (upd H p (.lst (xs.set j v)))
theorem set_list:PSet X rSetL:=by
 intro pins s σ H o i v ov iv u Q I ro ri rv h
 obtain ⟨p,xs,k,j,rfl,rfl,hp,hj,q⟩:=h
 cases ro
 obtain ⟨t,rfl⟩:=ri
 obtain ⟨its,n,r,ho,hz⟩:=I.lst hp
 obtain ⟨h1,h2,h3,h4⟩:=ixN_seq hj
 have hl:=r.length
 have hn:=line63
 have I':Inv X pins σ (upd H p (.lst (xs.set j v))) { s with heap:=s.heap.update p (Obj.mapSeq (·.setIfInBounds j u)) } :=
   I.lstUpd hp ho (mapSeq_set its n j u) (r.set rv j) (by rw [List.length_set]; exact hz) s.toks
 by_cases h0:0≤k
 · have hk:k.toNat=j:=by
     rw [seqIndex_of h0 h4] at h1
     exact Option.some.inj h1
   exact PySem.W.ki_setAt ho h0 (by omega) (by rw [List.size_toArray,← hl]; exact h4) (by rw [hk]; exact ⟨_,I',q⟩)
 · have hk:(k + (its.toArray.size:Int)).toNat=j:=by
     rw [seqIndex_neg (by omega) h3] at h1
     rw [List.size_toArray,← hl]
     exact Option.some.inj h1
   exact PySem.W.ki_setBack ho (by omega) (by rw [List.size_toArray,← hl]; exact h3) (by omega) (by rw [hk]; exact ⟨_,I',q⟩)
theorem call_len_seq:CallR X (.builtin "len") (fun xs H Q=>∃ p ys,xs=[.ref p]∧(SqL X.K H p ys∨SqT X.K H p ys)∧Q (.int ys.length) H):=by
 intro pins s σ H xs us Q I r h
 obtain ⟨p,ys,rfl,hq,q⟩:=h
 obtain ⟨u,rfl,rx⟩:=vals1 r
 cases rx
 have hn:=line63
 rcases hq with hq | hq
 · obtain ⟨its,r',pl,hz⟩:=I.list hq
   have hlen:=r'.length
   exact Calls.call_len_list pl.isList (by simp only [List.size_toArray] <;> omega) ⟨.int ys.length,H,I.tok _,⟨s.toks + 1,by rw [List.size_toArray,hlen]⟩,q⟩
 · obtain ⟨its,r',pl,hz⟩:=I.tuple hq
   have hlen:=r'.length
   exact len_tuple pl (by simp only [List.size_toArray] <;> omega) ⟨.int ys.length,H,I.tok _,⟨s.toks + 1,by rw [List.size_toArray,hlen]⟩,q⟩
theorem call_list_of:CallR X (.type "list") (fun xs H Q=>∃ p ys,xs=[.ref p]∧(SqL X.K H p ys∨SqT X.K H p ys)∧∀ l,H l=none→Q (.ref l) (upd H l (.lst ys))):=by
 intro pins s σ H xs us Q I r h
 obtain ⟨p,ys,rfl,hq,q⟩:=h
 obtain ⟨u,rfl,rx⟩:=vals1 r
 cases rx
 have fin:∀ (its:List Value),Vals ys its→ys.length≤sizeLine→∀ (h':Heap) (c':Nat),(∀ b o',s.heap.get? b=some o'→h'.get? b=some o') →
     h'.get? s.heap.objs.size=some { cls:=.type "list",dict:=none,data:=.seq its.toArray c',slots:=#[] }→EP X pins σ Q (.ref s.heap.objs.size) { s with heap:=h' }:=fun its r' hz h' c' kp e =>
   ⟨.ref s.heap.objs.size,_,I.laid (t':=s.toks) kp (Nat.le_refl _) (show ObjOk X.prog X.w _ h' _ (.lst ys) from ⟨hz,its,c',r',e⟩),rfl,q _ (I.hok.fresh (Nat.le_refl _))⟩
 rcases hq with hq | hq
 · obtain ⟨its,r',pl,hz⟩:=I.list hq
   have hlen:=r'.length
   obtain ⟨o,ho,hc,n,hd⟩:=pl.isList
   exact call_list_seq p (.inl rfl) ho hc hd (fun h' c' kp e=>fin its r' hz h' c' kp e) (by simp only [List.size_toArray] <;> omega)
 · obtain ⟨its,r',pl,hz⟩:=I.tuple hq
   have hlen:=r'.length
   obtain ⟨o,ho,hc,n,hd⟩:=pl
   exact call_list_seq p (.inr rfl) ho hc hd (fun h' c' kp e=>fin its r' hz h' c' kp e) (by simp only [List.size_toArray] <;> omega)
theorem call_tuple_of:CallR X (.type "tuple") (fun xs H Q=>∃ p ys,xs=[.ref p]∧((SqL X.K H p ys∧∀ l,H l=none→Q (.ref l) (upd H l (.tup ys)))∨(SqT X.K H p ys∧Q (.ref p) H))):=by
 intro pins s σ H xs us Q I r h
 obtain ⟨p,ys,rfl,h⟩:=h
 obtain ⟨u,rfl,rx⟩:=vals1 r
 cases rx
 rcases h with ⟨hq,q⟩ | ⟨hq,q⟩
 · obtain ⟨its,r',pl,hz⟩:=I.list hq
   have hlen:=r'.length
   refine call_tuple_list pl.isList (fun h' kp=>?_) (by simp only [List.size_toArray] <;> omega)
   have I1:Inv X pins σ H { s with heap:=h' }:=I.kept (t':=s.toks) kp
   have I2:Inv X pins σ (upd H h'.objs.size (.tup ys)) { s with heap:=h'.push { cls:=.type "tuple",data:=.seq its.toArray } } :=
     I1.laid (t':=s.toks) (fun b o e=>Heap.get?_push_of_some _ e) (Nat.le_refl _) (show ObjOk X.prog X.w _ _ _ (.tup ys) from ⟨hz,its,r',IsTup.new _ _⟩)
   exact ⟨.ref h'.objs.size,_,I2,rfl,q _ (I1.hok.fresh (Nat.le_refl _))⟩
 · obtain ⟨its,r',pl,hz⟩:=I.tuple hq
   exact call_tuple_same pl ⟨.ref p,H,I,rfl,q⟩
def tyV (K:PySem.W.Frag) (T:String) (x:V) (H:Hp):Prop:=match x with
 | .str _=>T="str"
 | .int _=>T="int"
 | .ref p=>(T="list"∧∃ xs,SqL K H p xs)∨(T="tuple"∧∃ o,K.lookup p=some o∧o.cls=.type "tuple"∧o.dict=none) ∨
     (T="dict"∧((∃ kvs,H p=some (.dK kvs))∨∃ kvs,H p=some (.dT kvs)))∨(T="set"∧∃ S n,H p=some (.set S n))
 | _=>False
theorem tyV_is {pins:List (Addr × Obj)} {σ:St} {H:Hp} {s:Shared} {T:String} {x:V} {v:Value} (I:Inv X pins σ H s) (r:RelV x v) (ty:tyV X.K T x H) :
   s.TypeIs v T∧∀ a,v=.ref a→∃ ob,s.heap.get? a=some ob∧ob.dict=none:=by
 cases x with
 | str z =>
   obtain ⟨t,rfl⟩:=r
   cases (show T="str" from ty)
   exact ⟨typeIs_str s z t,fun _ e=>nomatch e⟩
 | int i =>
   obtain ⟨t,rfl⟩:=r
   cases (show T="int" from ty)
   exact ⟨typeIs_int s i t,fun _ e=>nomatch e⟩
 | ref p =>
   cases r
   rcases ty with ⟨rfl,xs,hq⟩ | ⟨rfl,o,hk,hc,hd⟩ | ⟨rfl,hk⟩ | ⟨rfl,S,n,hk⟩
   · obtain ⟨its,_,pl,_⟩:=I.list hq
     refine ⟨pl.isList.typeIs,fun a e=>?_⟩
     cases e
     obtain ⟨o,n,e,c,hd,_⟩:=pl
     exact ⟨o,e,hd⟩
   · refine ⟨⟨o,I.kIn p o hk,hc⟩,fun a e=>?_⟩
     cases e
     exact ⟨o,I.kIn _ o hk,hd⟩
   · have z:∃ o,s.heap.get? p=some o∧o.ExactDict:=by
       rcases hk with ⟨kvs,hk⟩ | ⟨kvs,hk⟩
       · obtain ⟨_,_,_,_,o,_,_,e,ex,_⟩:=I.hok p _ hk
         exact ⟨o,e,ex⟩
       · obtain ⟨_,_,_,_,o,_,_,e,ex,_⟩:=I.hok p _ hk
         exact ⟨o,e,ex⟩
     obtain ⟨o,e,ex⟩:=z
     refine ⟨⟨o,e,ex.1⟩,fun a e2=>?_⟩
     cases e2
     exact ⟨o,e,ex.2.1⟩
   · obtain ⟨o,_,_,_,e,ex,_⟩:=I.hok p _ hk
     refine ⟨⟨o,e,ex.1⟩,fun a e2=>?_⟩
     cases e2
     exact ⟨o,e,ex.2.1⟩
 | _=>exact False.elim ty
def tBM0 (K:PySem.W.Frag) (T:String) (r:V→List V→Hp→VK→Prop) (to:TE):TE:=fun σ H Q=>to σ H fun x H1=>tyV K T x H1∧r x [] H1 Q
def tBM (K:PySem.W.Frag) (T:String) (r:V→List V→Hp→VK→Prop) (to:TE) (t:TA):TE:=fun σ H Q=>to σ H fun x H1=>tyV K T x H1∧t σ H1 fun xs H2=>r x xs H2 Q
variable {o e:Expr} {es:List Expr} {to:TE} {t:TA} {name:Str} {apos cpos:Pos} {T id:String} {r:V→List V→Hp→VK→Prop}
theorem pe_bm0 (pa:PlainAttrs T) (slot:Slot T name id) (hty:typeOf (.builtin id)=pure (.type "method_descriptor")) (hm:MtR X id r) (ho:PE X o to)
   (hbase:attributeBase o name X.env (eval o X.env)=eval o X.env:=by rfl) (hline:(apos.endLine == cpos.line)=true:=by rfl):PE X (.Call (.Attribute o name apos) [] [] cpos) (tBM0 X.K T r to):=by
 intro pins s σ H Q I h
 refine wpAny_Call_method0_late hbase hline (thnE (ho pins s σ H _ I h) fun v s1 x H1 I1 r1 ⟨ty,q1⟩=>?_)
 obtain ⟨h1,h2⟩:=tyV_is I1 r1 ty
 exact ⟨T,id,pa,slot,hty,h1,h2,Calls.callWith_builtin rfl (PySem.evalArgs_none (hm pins s1 σ H1 x [] v [] Q I1 r1 .nil q1))⟩
theorem pe_bm (pa:PlainAttrs T) (slot:Slot T name id) (hty:typeOf (.builtin id)=pure (.type "method_descriptor")) (hm:MtR X id r) (ho:PE X o to) (ha:PA X (e :: es) t)
   (hbase:attributeBase o name X.env (eval o X.env)=eval o X.env:=by rfl)
   (hfew:((backTo cpos (starEach (e :: es) X.env)).all (fun x=>!x.1) && (backToKw cpos (keywordEach [] X.env)).all (fun x=>x.1.isSome)
     && decide ((e :: es).length + ([]:List Keyword).length + (if ([]:List Keyword).isEmpty then 0 else 1) < 30))=true:=by rfl)
   (hline:(apos.endLine == cpos.line)=true:=by rfl) (hs:starEach (e :: es) X.env=(false,eval e X.env) :: starEach es X.env:=by rfl) (hplain:(backTo cpos (starEach es X.env)).any (·.1)=false:=by rfl) :
   PE X (.Call (.Attribute o name apos) (e :: es) [] cpos) (tBM X.K T r to t):=by
 intro pins s σ H Q I h
 refine wpAny_Call_method_late hbase hfew hline rfl (thnE (ho pins s σ H _ I h) fun v s1 x H1 I1 r1 ⟨ty,q1⟩=>?_)
 obtain ⟨h1,h2⟩:=tyV_is I1 r1 ty
 refine ⟨T,id,pa,slot,hty,h1,h2,?_⟩
 have hA:=ha cpos pins s1 σ H1 _ I1 q1
 rw [hs] at hA ⊢
 refine Calls.callWith_builtin (by show (false || (backTo cpos (starEach es X.env)).any (·.1))=false; rw [hplain] <;> rfl) (Calls.evalArgs_plain ?_)
 exact thn hA fun us s2 ⟨vs,H2,I2,r2,q2⟩=>hm pins s2 σ H2 x vs v us Q I2 r1 r2 q2
end
end L2
namespace L2
open PySem PySem.Spec PyProof.Rows
def MtM (X:Cx) (id:String) (r:V→List V→Hp→VK→Prop):Prop :=
 ∀ (pins:List (Addr × Obj)) (s:Shared) (σ:St) (H:Hp) (x:V) (xs:List V) (v:Value) (us:List Value) (Q:VK),Inv X pins σ H s→RelV x v→Vals xs us→r x xs H Q →
   wpAny (model X.prog X.w) X.A (call (.builtin id) (v :: us)) (EP X pins σ Q) X.xe s
theorem Vals.one {x:V} {us:List Value} (h:Vals [x] us):∃ u,us=[u]∧RelV x u:=by
 cases h with
 | cons r t=>cases t; exact ⟨_,rfl,r⟩
theorem Vals.two {x y:V} {us:List Value} (h:Vals [x,y] us):∃ u v,us=[u,v]∧RelV x u∧RelV y v:=by
 cases h with
 | cons r t =>
   obtain ⟨v,e,q⟩:=Vals.one t
   subst e
   exact ⟨_,v,rfl,r,q⟩
theorem Vals.zero:∀ {us:List Value},Vals [] us→us=[]
 | _,.nil=>rfl
theorem Vals.dropLast {xs:List V} {us:List Value} (h:Vals xs us):Vals xs.dropLast us.dropLast:=by
 induction h with
 | nil=>exact .nil
 | cons r t ih =>
   cases t with
   | nil=>exact .nil
   | cons q t'=>exact .cons r ih
theorem Vals.rep {xs:List V} {us:List Value} (h:Vals xs us):∀ k:Nat,Vals (List.replicate k xs).flatten (List.replicate k us).flatten
 | 0=>.nil
 | k + 1=>by
   rw [List.replicate_succ,List.replicate_succ,List.flatten_cons,List.flatten_cons]
   exact Vals.append h (Vals.rep h k)
theorem erase_last {α:Type} (l:List α):l.eraseIdx (l.length - 1)=l.dropLast:=by
 induction l with
 | nil=>rfl
 | cons a r ih =>
   cases r with
   | nil=>rfl
   | cons b r =>
     have e:(a :: b :: r).length - 1=((b :: r).length - 1) + 1:=by
       have h1:(a :: b :: r).length=r.length + 2:=rfl
       have h2:(b :: r).length=r.length + 1:=rfl
       omega
     rw [e,List.eraseIdx_cons_succ,ih]
     all_goals rfl
theorem foldl_rep (its:List Value):∀ (k:Nat) (acc:List Value),
   List.foldl (fun x1 x2=>x1 ++ x2) acc.toArray (List.replicate k its.toArray)=(acc ++ (List.replicate k its).flatten).toArray
 | 0,acc=>by simp
 | k + 1,acc=>by
   have e:acc.toArray ++ its.toArray=(acc ++ its).toArray:=by simp
   have e2:(acc ++ its) ++ (List.replicate k its).flatten=acc ++ (List.replicate (k + 1) its).flatten:=by
     rw [List.replicate_succ,List.flatten_cons,List.append_assoc]
   rw [← e2,← foldl_rep its k (acc ++ its),← e,List.replicate_succ,List.foldl_cons]
section
variable {X:Cx} {pins:List (Addr × Obj)} {σ:St} {H:Hp} {s:Shared} {l b:Addr} {xs ys zs:List V}
theorem Inv.lset {its its':List Value} {n:Nat} {f:Array Value→Array Value} {t':Nat} (I:Inv X pins σ H s) (hH:H l=some (.lst xs))
   (e:s.heap.get? l=some { cls:=.type "list",data:=.seq its.toArray n }) (hf:f its.toArray=its'.toArray) (hv:Vals ys its') (hz:ys.length≤sizeLine) :
   Inv X pins σ (upd H l (.lst ys)) { s with heap:=s.heap.update l (Obj.mapSeq f),toks:=t' }:=by
 have q:=PySem.IsL.update e f
 rw [hf] at q
 refine I.write (x:=l) (e:=l) (by rw [hH]; exact trivial) (.inl rfl) (fun b' u hb hu=>(Heap.get?_update_other s.heap (Obj.mapSeq f) (Ne.symm hb)).trans hu) ⟨_,q⟩ ?_
 exact ⟨hz,its',_,hv,q⟩
theorem Inv.lnew {its:List Value} {t':Nat} (I:Inv X pins σ H s) (hv:Vals ys its) (hz:ys.length≤sizeLine) :
   Inv X pins σ (upd H s.heap.objs.size (.lst ys)) { s with heap:=s.heap.push { cls:=.type "list",data:=.seq its.toArray },toks:=t' } :=
 I.laid (fun _ _ q=>Heap.get?_push_of_some _ q) (Nat.le_refl _) ⟨hz,its,0,hv,Heap.get?_push_size _ rfl⟩
theorem Inv.fresh (I:Inv X pins σ H s):H s.heap.objs.size=none:=I.hok.fresh (Nat.le_refl _)
theorem Inv.lstM (I:Inv X pins σ H s) (hH:H l=some (.lst xs)):xs.length≤sizeLine∧∃ (its:List Value) (n:Nat),Vals xs its∧xs.length=its.length∧s.heap.get? l=some { cls:=.type "list",data:=.seq its.toArray n }:=by
 obtain ⟨z,its,n,r,e⟩:=I.hok l _ hH
 exact ⟨z,its,n,r,r.length,e⟩
theorem notLongL {n:Nat} (h:n≤sizeLine):Builtin.List.listTooLong n=false:=by
 unfold Builtin.List.listTooLong
 exact decide_eq_false (by omega)
end
section
variable {X:Cx}
def rAppend:V→List V→Hp→VK→Prop:=fun x vs H Q=>∃ l xs y,x=.ref l∧vs=[y]∧H l=some (.lst xs)∧xs.length < sizeLine∧Q .non (upd H l (.lst (xs ++ [y])))
theorem mt_append:MtM X "list.append" rAppend:=by
 intro pins s σ H x vs v us Q I rx rv h
 obtain ⟨l,xs,y,rfl,rfl,hH,hz,q⟩:=h
 cases rx
 obtain ⟨u,rfl,ru⟩:=rv.one
 obtain ⟨z,its,n,r,hl,e⟩:=I.lstM hH
 refine call_meets F.slot_list_append ⟨_,e,rfl⟩ F.entry_list_append (F.args_list_append_2 _ _) (PySem.list_append l its.toArray n u (by rw [List.size_toArray]; omega)) ⟨e,?_⟩
 refine ⟨.non,_,I.lset (its':=its ++ [u]) hH e (by simp) (r.append (.cons ru .nil)) ?_,rfl,q⟩
 rw [List.length_append,List.length_singleton]
 omega
def rPop:V→List V→Hp→VK→Prop:=fun x vs H Q=>∃ l xs y,x=.ref l∧vs=[]∧H l=some (.lst xs)∧xs[xs.length - 1]?=some y∧Q y (upd H l (.lst xs.dropLast))
theorem mt_pop:MtM X "list.pop" rPop:=by
 intro pins s σ H x vs v us Q I rx rv h
 obtain ⟨l,xs,y,rfl,rfl,hH,hy,q⟩:=h
 cases rx
 have hus:=rv.zero
 subst hus
 obtain ⟨z,its,n,r,hl,e⟩:=I.lstM hH
 obtain ⟨u,hu,ru⟩:=r.get hy
 have hy':its.toArray[its.toArray.size - 1]?=some u:=by
   show its.toArray[its.length - 1]?=some u
   rw [← Array.getElem?_toList,← hl]
   exact hu
 refine call_meets F.slot_list_pop ⟨_,e,rfl⟩ F.entry_list_pop (F.args_list_pop_1 _) (MeetsSeq.list_pop_last l its.toArray n u hy' (by rw [List.size_toArray]; omega)) ⟨e,?_⟩
 refine ⟨y,_,I.lset (its':=its.dropLast) hH e ?_ r.dropLast ?_,ru,q⟩
 · show its.toArray.eraseIdxIfInBounds (its.toArray.size - 1)=its.dropLast.toArray
   rw [List.size_toArray,List.eraseIdxIfInBounds_toArray,erase_last]
 · rw [List.length_dropLast]
   omega
def rCat:R2:=fun x y H Q=>∃ l b xs zs,x=.ref l∧y=.ref b∧H l=some (.lst xs)∧H b=some (.lst zs)∧xs.length + zs.length≤sizeLine∧∀ p,H p=none→Q (.ref p) (upd H p (.lst (xs ++ zs)))
theorem op_cat:OpR X (binaryOp .Add) rCat:=by
 intro pins s σ H x y v u Q I rx ry h
 obtain ⟨l,b,xs,zs,rfl,rfl,hH,hB,hz,q⟩:=h
 cases rx
 cases ry
 obtain ⟨z,its,n,r,hl,e⟩:=I.lstM hH
 obtain ⟨z2,its2,n2,r2,hl2,e2⟩:=I.lstM hB
 refine PySem.P.add_list e e2 ?_ (by rw [List.size_toArray,List.size_toArray]; omega)
 have ea:its.toArray ++ its2.toArray=(its ++ its2).toArray:=by simp
 rw [ea]
 exact ⟨.ref _,_,I.lnew (t':=s.toks) (r.append r2) (by rw [List.length_append]; omega),rfl,q _ I.fresh⟩
def rRep:R2:=fun x y H Q=>∃ l k xs,x=.ref l∧y=.int k∧H l=some (.lst xs)∧-(2 ^ 63)≤k∧k < 2 ^ 63∧xs.length * k.toNat≤sizeLine ∧
 ∀ p,H p=none→Q (.ref p) (upd H p (.lst (List.replicate k.toNat xs).flatten))
theorem len_rep {α:Type} (xs:List α) (k:Nat):(List.replicate k xs).flatten.length=k * xs.length:=by
 induction k with
 | zero=>simp
 | succ k ih=>rw [List.replicate_succ,List.flatten_cons,List.length_append,ih,Nat.succ_mul,Nat.add_comm]
theorem op_rep:OpR X (binaryOp .Mult) rRep:=by
 intro pins s σ H x y v u Q I rx ry h
 obtain ⟨l,k,xs,rfl,rfl,hH,h1,h2,hz,q⟩:=h
 cases rx
 obtain ⟨t,rfl⟩:=ry
 obtain ⟨z,its,n,r,hl,e⟩:=I.lstM hH
 have hlen:its.toArray.size * k.toNat≤sizeLine:=by rw [List.size_toArray,← hl]; exact hz
 have hcap:¬ its.toArray.size * k.toNat > (2 ^ 63 - 1) / 8:=by
   have:(sizeLine:Nat)≤(2 ^ 63 - 1) / 8:=by decide
   omega
 have hfit:¬ (!Builtin.List.listFitsIndex k)=true:=by
   rw [fitsIndex_both h1 h2]
   exact Bool.false_ne_true
 have hlong:¬ Builtin.List.listTooLong (its.toArray.size * k.toNat)=true:=by
   rw [notLongL hlen]
   exact Bool.false_ne_true
 have hnew:List.foldl (fun x1 x2=>x1 ++ x2) #[] (List.replicate (if its.toArray.isEmpty=true then 0 else k.toNat) its.toArray)=(List.replicate k.toNat its).flatten.toArray:=by
   have f0:∀ m:Nat,List.foldl (fun x1 x2=>x1 ++ x2) #[] (List.replicate m its.toArray)=(List.replicate m its).flatten.toArray:=fun m=>by
     have:=foldl_rep its m []
     rw [List.nil_append] at this
     exact this
   rw [f0]
   cases its with
   | nil=>simp
   | cons a r'=>rw [if_neg (by simp)]
 refine wpAny_binaryOp_repeat_ref (T:="list") (U:="int") (by decide) ⟨_,e,rfl⟩ (fun s'=>typeIs_int s' k t) noFill_list_mul F.fills_int_mul F.slot_int_rmul repeat_list F.slot_int_index.lookup
   (call_meets F.slot_int_rmul (typeIs_int s k t) F.entry_int_rmul (F.args_int_rmul_2 _ _) (int___rmul___int_list k t l its.toArray n)
     ⟨e,rfl,⟨_,e,rfl⟩,call_meets F.slot_list_mul ⟨_,e,rfl⟩ F.entry_list_mul (F.args_list_mul_2 _ _) (AutoListH.list___mul___list_int_3 l its.toArray n k t hfit hcap hlong) ⟨e,?_⟩⟩)
 rw [hnew]
 exact ⟨.ref _,_,I.lnew (t':=s.toks) (r.rep k.toNat) (by rw [len_rep,Nat.mul_comm]; exact hz),rfl,q _ I.fresh⟩
end
section
variable {prog:Program} {w:World} {A:Around} {E:Value→Shared→Prop} {s:Shared}
set_option maxRecDepth 100000 in
end
section
variable {X:Cx}
end
end L2
namespace L2
open PySem PySem.Spec PyProof.Rows
section
variable {κ:Type} [DecidableEq κ]
def valV (kvs:List (κ × V)) (k:κ):Option V:=(kvs.find? fun kv=>decide (kv.1=k)).map (·.2)
def putK (kvs:List (κ × V)) (k:κ) (v:V):List (κ × V) :=
 if (kvs.any fun kv=>decide (kv.1=k))=true then kvs.map (fun kv=>if kv.1=k then (kv.1,v) else kv) else kvs ++ [(k,v)]
theorem valV_pos {p:κ × V} {r:List (κ × V)} {k:κ} (e:p.1=k):valV (p :: r) k=some p.2:=by simp [valV,List.find?_cons,e]
theorem valV_neg {p:κ × V} {r:List (κ × V)} {k:κ} (e:¬ p.1=k):valV (p :: r) k=valV r k:=by simp [valV,List.find?_cons,e]
theorem valV_any (k:κ):∀ kvs:List (κ × V),(kvs.any fun kv=>decide (kv.1=k))=(valV kvs k).isSome
 | []=>rfl
 | p :: r=>by
   rw [List.any_cons]
   by_cases e:p.1=k
   · simp only [valV_pos e,decide_eq_true e,Bool.true_or,Option.isSome_some]
   · rw [valV_neg e,decide_eq_false e,Bool.false_or]; exact valV_any k r
theorem valV_map (k j:κ) (y:V):∀ kvs:List (κ × V),valV (kvs.map fun kv=>if kv.1=k then (kv.1,y) else kv) j=(valV kvs j).map fun x=>if j=k then y else x
 | []=>rfl
 | p :: r=>by
   have ih:=valV_map k j y r
   rw [List.map_cons]
   by_cases h:p.1=k
   · rw [if_pos h]
     by_cases e:p.1=j
     · rw [valV_pos (p:=(p.1,y)) e,valV_pos e,Option.map_some,if_pos (e.symm.trans h)]
     · rw [valV_neg (p:=(p.1,y)) e,valV_neg e,ih]
   · rw [if_neg h]
     by_cases e:p.1=j
     · rw [valV_pos (p:=p) e,valV_pos e,Option.map_some,if_neg (fun z=>h (e.trans z))]
     · rw [valV_neg (p:=p) e,valV_neg e,ih]
theorem valV_snoc (k j:κ) (y:V):∀ kvs:List (κ × V),valV kvs k=none→valV (kvs ++ [(k,y)]) j=if j=k then some y else valV kvs j
 | [],_=>by
   by_cases e:k=j
   · rw [if_pos e.symm]; exact valV_pos (p:=(k,y)) e
   · rw [if_neg (fun z=>e z.symm)]; exact valV_neg (p:=(k,y)) e
 | p :: r,hn=>by
   rw [List.cons_append]
   have hk:¬ p.1=k:=fun z=>by rw [valV_pos z] at hn; cases hn
   rw [valV_neg hk] at hn
   have ih:=valV_snoc k j y r hn
   by_cases e:p.1=j
   · rw [valV_pos e,valV_pos e,if_neg (fun z=>hk (e.trans z))]
   · rw [valV_neg e,valV_neg e,ih]
theorem valV_put (kvs:List (κ × V)) (k j:κ) (y:V):valV (putK kvs k y) j=if j=k then some y else valV kvs j:=by
 unfold putK
 by_cases a:(kvs.any fun kv=>decide (kv.1=k))=true
 · rw [if_pos a,valV_map]
   rw [valV_any] at a
   by_cases e:j=k
   · obtain ⟨x,hx⟩:=Option.isSome_iff_exists.mp a
     rw [if_pos e,e,hx,Option.map_some,if_pos rfl]
   · rw [if_neg e]
     cases valV kvs j with
     | none=>rfl
     | some x=>rw [Option.map_some,if_neg e]
 · rw [if_neg a]
   refine valV_snoc k j y kvs ?_
   rw [valV_any] at a
   cases q:valV kvs k with
   | none=>rfl
   | some x=>rw [q] at a; exact (a rfl).elim
theorem length_putK (kvs:List (κ × V)) (k:κ) (v:V):(putK kvs k v).length≤kvs.length + 1:=by
 unfold putK
 split
 · rw [List.length_map]; omega
 · rw [List.length_append,List.length_cons,List.length_nil]; omega
theorem putK_new {kvs:List (κ × V)} {k:κ} (v:V) (h:valV kvs k=none):putK kvs k v=kvs ++ [(k,v)]:=by
 unfold putK
 rw [valV_any,h]
 exact if_neg (by decide)
theorem RelO.isSome_eq {o:Option V} {u:Option Value} (r:RelO o u):o.isSome=u.isSome:=by
 cases o with
 | none=>cases u with
   | none=>rfl
   | some _=>exact (show False from r).elim
 | some _=>cases u with
   | none=>exact (show False from r).elim
   | some _=>rfl
theorem KV.val {kvs:List (κ × V)} {vs:List (κ × Value)} (r:KV kvs vs) (k:κ):RelO (valV kvs k) (valueAt vs k):=by
 unfold KV at r
 induction r with
 | nil=>exact True.intro
 | @cons p q ps qs h t ih =>
   obtain ⟨h1,h2⟩:=h
   by_cases e:p.1=k
   · have e':q.1=k:=h1.symm.trans e
     have b:valueAt (q :: qs) k=some q.2:=by simp [valueAt,List.find?_cons,e']
     rw [valV_pos e,b]; exact h2
   · have e':¬ q.1=k:=fun z=>e (h1.trans z)
     have b:valueAt (q :: qs) k=valueAt qs k:=by simp [valueAt,List.find?_cons,e']
     rw [valV_neg e,b]; exact ih
theorem KV.any {kvs:List (κ × V)} {vs:List (κ × Value)} (r:KV kvs vs) (k:κ):(kvs.any fun kv=>decide (kv.1=k))=vs.any fun kv=>decide (kv.1=k):=by
 unfold KV at r
 induction r with
 | nil=>rfl
 | cons h t ih=>rw [List.any_cons,List.any_cons,ih,h.1]
theorem KV.repl {kvs:List (κ × V)} {vs:List (κ × Value)} (r:KV kvs vs) (k:κ) {y:V} {u:Value} (ry:RelV y u) :
   KV (kvs.map fun kv=>if kv.1=k then (kv.1,y) else kv) (vs.map fun kv=>if kv.1=k then (kv.1,u) else kv):=by
 unfold KV at r ⊢
 induction r with
 | nil=>exact .nil
 | @cons p q ps qs h t ih =>
   rw [List.map_cons,List.map_cons]
   refine .cons ?_ ih
   obtain ⟨h1,h2⟩:=h
   by_cases e:p.1=k
   · rw [if_pos e,if_pos (h1.symm.trans e)]; exact ⟨h1,ry⟩
   · rw [if_neg e,if_neg (fun z=>e (h1.trans z))]; exact ⟨h1,h2⟩
theorem KV.put {kvs:List (κ × V)} {vs:List (κ × Value)} (r:KV kvs vs) (k:κ) {y:V} {u:Value} (ry:RelV y u):KV (putK kvs k y) (stored vs k u):=by
 unfold putK stored
 rw [r.any k]
 by_cases e:(vs.any fun kv=>decide (kv.1=k))=true
 · rw [if_pos e,if_pos e]; exact r.repl k ry
 · rw [if_neg e,if_neg e]; exact Paired.snoc r ⟨rfl,ry⟩
theorem KV.length {kvs:List (κ × V)} {vs:List (κ × Value)} (r:KV kvs vs):kvs.length=vs.length:=Paired.length r
end
theorem kV_is {P:Program} {w:World} {k:Key} {u:Value} (r:RelV (kV k) u):(mixKind P w).is k u=true:=by
 cases k with
 | inl i=>obtain ⟨t,e⟩:=(show ∃ t,u=Value.int i t from r); subst e; exact mixKind_int P w i t
 | inr x=>obtain ⟨t,e⟩:=(show ∃ t,u=Value.str x t from r); subst e; exact mixKind_str P w x t
theorem items_are {P:Program} {w:World}:∀ {ks:List Key} {us:List Value},Vals (ks.map kV) us→ItemsAre (mixKind P w) ks us
 | [],_,r=>by rw [List.map_nil] at r; cases r; exact .nil
 | k :: ks,_,r=>by
   rw [List.map_cons] at r
   cases r with
   | cons h t=>exact .cons (kV_is h) (items_are t)
abbrev KT (H:Hp):List (List Key × V)→List (List Key × Addr × Value)→Prop:=Paired fun p q=>p.1=q.1∧H q.2.1=some (.tup (p.1.map kV))∧RelV p.2 q.2.2
theorem KT.val {H:Hp} {kvs:List (List Key × V)} {xs:List (List Key × Addr × Value)} (r:KT H kvs xs) (k:List Key):RelO (valV kvs k) ((atKey xs k).map (·.2)):=by
 induction r with
 | nil=>exact True.intro
 | @cons p q ps qs h t ih =>
   obtain ⟨h1,_,h2⟩:=h
   by_cases e:p.1=k
   · have e':q.1=k:=h1.symm.trans e
     have b:atKey (q :: qs) k=some q.2:=by simp [atKey,List.find?_cons,e']
     rw [valV_pos e,b]; exact h2
   · have e':¬ q.1=k:=fun z=>e (h1.trans z)
     have b:atKey (q :: qs) k=atKey qs k:=by simp [atKey,List.find?_cons,e']
     rw [valV_neg e,b]; exact ih
theorem KT.repl {H:Hp} {kvs:List (List Key × V)} {xs:List (List Key × Addr × Value)} (r:KT H kvs xs) (k:List Key) {y:V} {u:Value} (ry:RelV y u) :
   KT H (kvs.map fun kv=>if kv.1=k then (kv.1,y) else kv) (xs.map (putAt k u)):=by
 induction r with
 | nil=>exact .nil
 | @cons p q ps qs h t ih =>
   rw [List.map_cons,List.map_cons]
   refine .cons ?_ ih
   obtain ⟨h1,h2,h3⟩:=h
   unfold putAt
   by_cases e:p.1=k
   · rw [if_pos e,if_pos (h1.symm.trans e)]; exact ⟨h1,h2,ry⟩
   · rw [if_neg e,if_neg (fun z=>e (h1.trans z))]; exact ⟨h1,h2,h3⟩
theorem KT.put {H:Hp} {kvs:List (List Key × V)} {xs:List (List Key × Addr × Value)} (r:KT H kvs xs) (k:List Key) {b:Addr} {y:V} {u:Value} (hb:H b=some (.tup (k.map kV))) (ry:RelV y u) :
   KT H (putK kvs k y) (storedH xs k b u):=by
 have e:(kvs.any fun kv=>decide (kv.1=k))=(atKey xs k).isSome:=by
   rw [valV_any,(r.val k).isSome_eq,Option.isSome_map]
 unfold putK storedH
 rw [e]
 by_cases q:(atKey xs k).isSome=true
 · rw [if_pos q,if_pos q]; exact r.repl k ry
 · rw [if_neg q,if_neg q]; exact Paired.snoc r ⟨rfl,hb,ry⟩
theorem KT.keeps {H H':Hp} {kvs:List (List Key × V)} {xs:List (List Key × Addr × Value)} (r:KT H kvs xs) (ht:∀ b ys,H b=some (.tup ys)→H' b=some (.tup ys)):KT H' kvs xs :=
 Paired.mapP r fun _ _ z=>⟨z.1,ht _ _ z.2.1,z.2.2⟩
section
variable {P:Program} {w:World} {H:Hp} {h:Heap} {a:Addr}
theorem rd_of {u:HO} (ok:HOk P w H h) (e:Rd H a u):ObjOk P w H h a u:=e.ok ok
theorem dk_rd {kvs:List (Key × V)} (ok:HOk P w H h) (e:Rd H a (.dK kvs)):kvs.length≤sizeLine∧(a == sysModules)=false∧∃ vs,KV kvs vs∧h.DictOf (mixKind P w) a vs :=
 show ObjOk P w H h a (.dK kvs) from rd_of ok e
theorem dk_of {kvs:List (Key × V)} (ok:HOk P w H h) (e:H a=some (.dK kvs)):kvs.length≤sizeLine∧(a == sysModules)=false∧∃ vs,KV kvs vs∧h.DictOf (mixKind P w) a vs:=dk_rd ok (.inl e)
theorem key_of {ks:List Key} (ok:HOk P w H h) (e:H a=some (.tup (ks.map kV))):(tupleKind (mixKind P w)).is h ks a:=by
 obtain ⟨_,its,r,o,h1,h2,n,h3⟩:=(show ObjOk P w H h a (.tup (ks.map kV)) from ok a _ e)
 exact ⟨o,its.toArray,n,h1,h2,h3,by simpa using items_are r⟩
theorem dt_rd {kvs:List (List Key × V)} (ok:HOk P w H h) (e:Rd H a (.dT kvs)):kvs.length≤sizeLine∧(a == sysModules)=false ∧
   ∃ xs,KT H kvs xs∧h.DictOfH (tupleKind (mixKind P w)) a xs:=by
 obtain ⟨z,y,xs,r,o,es,ep,h1,h2,h3,h4,h5⟩:=(show ObjOk P w H h a (.dT kvs) from rd_of ok e)
 refine ⟨z,y,xs,r,o,es,ep,h1,h2,h3,h4,fun x hx=>?_,h5⟩
 have all:∀ {l:List (List Key × V)} {m:List (List Key × Addr × Value)},KT H l m→∀ x∈m,(tupleKind (mixKind P w)).is h x.1 x.2.1:=by
   intro l m q
   induction q with
   | nil=>intro x hx; exact nomatch hx
   | @cons p q ps qs hq t ih =>
     intro x hx
     rcases List.mem_cons.mp hx with e | hx
     · subst e
       exact key_of ok (by rw [← hq.1]; exact hq.2.1)
     · exact ih x hx
 exact all r x hx
theorem dt_of {kvs:List (List Key × V)} (ok:HOk P w H h) (e:H a=some (.dT kvs)):kvs.length≤sizeLine∧(a == sysModules)=false ∧
   ∃ xs,KT H kvs xs∧h.DictOfH (tupleKind (mixKind P w)) a xs:=dt_rd ok (.inl e)
end
def DGet (H:Hp) (a:Addr) (y:V) (r:Option V):Prop :=
 (∃ kvs k,Rd H a (.dK kvs)∧y=kV k∧r=valV kvs k)∨∃ kvs k b,Rd H a (.dT kvs)∧y=.ref b∧H b=some (.tup (k.map kV))∧r=valV kvs k
def DPut (H:Hp) (a:Addr) (y v:V) (H':Hp):Prop :=
 (∃ kvs k,H a=some (.dK kvs)∧y=kV k∧kvs.length < sizeLine∧H'=upd H a (.dK (putK kvs k v))) ∨
 ∃ kvs k b,H a=some (.dT kvs)∧y=.ref b∧H b=some (.tup (k.map kV))∧kvs.length < sizeLine∧H'=upd H a (.dT (putK kvs k v))
theorem DGet.k {H:Hp} {a:Addr} {kvs:List (Key × V)} {k:Key} (e:H a=some (.dK kvs)):DGet H a (kV k) (valV kvs k):=.inl ⟨kvs,k,.inl e,rfl,rfl⟩
theorem DGet.t {H:Hp} {a b:Addr} {kvs:List (List Key × V)} {k:List Key} (e:H a=some (.dT kvs)) (eb:H b=some (.tup (k.map kV))):DGet H a (.ref b) (valV kvs k):=.inr ⟨kvs,k,b,.inl e,rfl,eb,rfl⟩
theorem DPut.k {H:Hp} {a:Addr} {kvs:List (Key × V)} {k:Key} {v:V} (e:H a=some (.dK kvs)) (hl:kvs.length < sizeLine):DPut H a (kV k) v (upd H a (.dK (putK kvs k v))):=.inl ⟨kvs,k,e,rfl,hl,rfl⟩
theorem DPut.t {H:Hp} {a b:Addr} {kvs:List (List Key × V)} {k:List Key} {v:V} (e:H a=some (.dT kvs)) (eb:H b=some (.tup (k.map kV))) (hl:kvs.length < sizeLine) :
   DPut H a (.ref b) v (upd H a (.dT (putK kvs k v))):=.inr ⟨kvs,k,b,e,rfl,eb,hl,rfl⟩
section
variable {X:Cx} {pins:List (Addr × Obj)} {σ:St} {H:Hp} {s:Shared} {a:Addr} {y v:V} {u r:Value} {o:Option V} {A:Around} {E:Value→Shared→Prop}
theorem Inv.big (I:Inv X pins σ H s):sysModules < s.heap.objs.size:=by
 have h:mainGlobals < s.heap.objs.size:=(I.mod.glob.keeps I.bk).lt
 exact Nat.lt_trans (by decide) h
theorem d_getItem {Q:Value→Shared→Prop} (hu:A.units + 1 < cLine) (I:Inv X pins σ H s) (g:DGet H a y (some v)) (ry:RelV y u) (h:∀ w' s',Inv X pins σ H s'→RelV v w'→Q w' s') :
   wpAny (model X.prog X.w) A (getItem (.ref a) u) Q E s:=by
 rcases g with ⟨kvs,k,e,ey,l⟩ | ⟨kvs,k,b,e,ey,eb,l⟩
 · subst ey
   obtain ⟨z,hd,vs,rel,dd⟩:=dk_rd I.hok e
   obtain ⟨w',hw,rw'⟩:=RelO.some_of (v:=v) (o:=valueAt vs k) (by rw [l]; exact rel.val k)
   exact wpAny_getItem_of (kV_is ry) dd.mapOf hw (h w' _ (I.tok _) rw')
 · subst ey
   cases (show u=Value.ref b from ry)
   obtain ⟨z,hd,xs,rel,dd⟩:=dt_rd I.hok e
   obtain ⟨w',hw,rw'⟩:=RelO.some_of (v:=v) (o:=(atKey xs k).map (·.2)) (by rw [l]; exact rel.val k)
   obtain ⟨p,hp,hp2⟩:=Option.map_eq_some_iff.mp hw
   refine wpAny_getItem_heap (tupleKind_room_in1 hu) (key_of I.hok eb) dd hp ?_
   rw [hp2]
   exact h w' _ (I.tok _) rw'
theorem d_in {Q:Value→Shared→Prop} (hu:A.units + 1 < cLine) (I:Inv X pins σ H s) (g:DGet H a y o) (ry:RelV y u) (h:∀ s',Inv X pins σ H s'→Q (.bool o.isSome) s') :
   wpAny (model X.prog X.w) A (compareOp .In u (.ref a)) Q E s:=by
 rcases g with ⟨kvs,k,e,ey,l⟩ | ⟨kvs,k,b,e,ey,eb,l⟩
 · subst ey
   obtain ⟨z,hd,vs,rel,dd⟩:=dk_rd I.hok e
   refine wpAny_in_of (kV_is ry) hd dd.mapOf ?_
   rw [← (rel.val k).isSome_eq,← l]
   exact h _ (I.tok _)
 · subst ey
   cases (show u=Value.ref b from ry)
   obtain ⟨z,hd,xs,rel,dd⟩:=dt_rd I.hok e
   refine wpAny_in_heap (tupleKind_room_in1 hu) (key_of I.hok eb) hd dd ?_
   have q:=(rel.val k).isSome_eq
   rw [Option.isSome_map] at q
   rw [← q,← l]
   exact h _ (I.tok _)
theorem d_notIn {Q:Value→Shared→Prop} (hu:A.units + 1 < cLine) (I:Inv X pins σ H s) (g:DGet H a y o) (ry:RelV y u) (h:∀ s',Inv X pins σ H s'→Q (.bool (!o.isSome)) s') :
   wpAny (model X.prog X.w) A (compareOp .NotIn u (.ref a)) Q E s:=by
 rcases g with ⟨kvs,k,e,ey,l⟩ | ⟨kvs,k,b,e,ey,eb,l⟩
 · subst ey
   obtain ⟨z,hd,vs,rel,dd⟩:=dk_rd I.hok e
   refine wpAny_notIn_of (kV_is ry) hd dd.mapOf ?_
   rw [← (rel.val k).isSome_eq,← l]
   exact h _ (I.tok _)
 · subst ey
   cases (show u=Value.ref b from ry)
   obtain ⟨z,hd,xs,rel,dd⟩:=dt_rd I.hok e
   refine wpAny_notIn_heap (tupleKind_room_in1 hu) (key_of I.hok eb) hd dd ?_
   have q:=(rel.val k).isSome_eq
   rw [Option.isSome_map] at q
   rw [← q,← l]
   exact h _ (I.tok _)
theorem d_write {h':Heap} {t':Nat} {ob:HO} (I:Inv X pins σ H s) (mu:Mut (H a)) (hs:Heap.SameBut a s.heap h') (he:∃ q,h'.get? a=some q) (new:ObjOk X.prog X.w (upd H a ob) h' a ob) :
   Inv X pins σ (upd H a ob) { s with heap:=h',toks:=t' } :=
 I.write (x:=a) (e:=a) mu (.inl rfl) (fun b q hb z=>(hs.2 b hb).trans z) he new
theorem dk_new {P:Program} {w:World} {H':Hp} {h':Heap} {kvs:List (Key × V)} {vs:List (Key × Value)} (z:kvs.length≤sizeLine) (hd:(a == sysModules)=false) (rel:KV kvs vs) (dd:h'.DictOf (mixKind P w) a vs) :
   ObjOk P w H' h' a (.dK kvs):=⟨z,hd,vs,rel,dd⟩
theorem d_setItem {H':Hp} {Q:Unit→Shared→Prop} (hu:A.units + 1 < cLine) (I:Inv X pins σ H s) (g:DPut H a y v H') (ry:RelV y u) (rv:RelV v r) (h:∀ s',Inv X pins σ H' s'→Q () s') :
   wpAny (model X.prog X.w) A (setItem (.ref a) u r) Q E s:=by
 rcases g with ⟨kvs,k,e,ey,l,eH⟩ | ⟨kvs,k,b,e,ey,eb,l,eH⟩
 · subst ey eH
   obtain ⟨z,hd,vs,rel,dd⟩:=dk_of I.hok e
   have hz:vs.length≤sizeLine:=by rw [← rel.length]; exact z
   have hl:(putK kvs k v).length≤sizeLine:=by have:=length_putK kvs k v; omega
   refine wpAny_setItem_pairs (hsz:=hz) (kV_is ry) dd fun h' dd' hs=>h _ ?_
   have he:∃ q,h'.get? a=some q:=let ⟨q,_,_,hq,_⟩:=dd'; ⟨q,hq⟩
   exact d_write I (by rw [e]; exact True.intro) hs he (dk_new hl hd (rel.put k rv) dd')
 · subst ey eH
   cases (show u=Value.ref b from ry)
   obtain ⟨z,hd,xs,rel,dd⟩:=dt_of I.hok e
   have hz:xs.length≤sizeLine:=by rw [← Paired.length rel]; exact z
   have hl:(putK kvs k v).length≤sizeLine:=by have:=length_putK kvs k v; omega
   refine wpAny_setItem_heap (hsz:=hz) (tupleKind_room_in1 hu) (key_of I.hok eb) dd fun h' dd' hs=>h _ ?_
   obtain ⟨q,es,ep,hq,h2,h3,h4,_,h5⟩:=dd'
   refine d_write I (by rw [e]; exact True.intro) hs ⟨q,hq⟩ ⟨hl,hd,_,(rel.put k eb rv).keeps fun c ys ec=>?_,q,es,ep,hq,h2,h3,h4,h5⟩
   rw [upd_ne (ne_of ec e (fun z=>nomatch z))]
   exact ec
end
section
variable {X:Cx} {pins:List (Addr × Obj)} {σ:St} {H:Hp} {s:Shared} {a:Addr} {kvs:List (Key × V)} {k:Key} {u:Value} {A:Around} {E:Value→Shared→Prop}
theorem d_len {Q:Value→Shared→Prop} (I:Inv X pins σ H s) (e:Rd H a (.dK kvs)) (h:∀ t s',Inv X pins σ H s'→Q (.int kvs.length t) s'):wpAny (model X.prog X.w) A (call (.builtin "len") [.ref a]) Q E s:=by
 obtain ⟨z,hd,vs,rel,dd⟩:=dk_rd I.hok e
 refine call_len_dict hd dd (by rw [← rel.length]; rw [sizeLine_eq] at z; omega) ?_
 rw [← rel.length]
 exact h _ _ (I.tok _)
end
def NoSl (i:Expr):Prop:=∀ ov iv,subscripted i false ov iv=operate [ov,iv] (getItem ov iv)
theorem subD_of {prog:Program} {w:World} {A:Around} {E:Value→Shared→Prop} {s:Shared} {env:Env} {value slice:Expr} {pos:Pos} {T id:String} {Q:Value→Shared→Prop}
   (hl:typeLookup (.type T) "__getitem__"=pure (some (.builtin id))) (hs:NoSl slice)
   (h:wpAny (model prog w) A (eval value env) (fun o s₁=>wpAny (model prog w) A (eval slice env) (fun i s₂=>s₂.TypeIs o T∧wpAny (model prog w) A (getItem o i) Q E s₂) E s₁) E s) :
   wpAny (model prog w) A (eval (.Subscript value slice pos) env) Q E s:=by
 refine Subscript_ (wpAny_mono h (fun o s₁ h₁=>wpAny_mono h₁ (fun i s₂ h₂=>?_) fun _ _ x=>x) fun _ _ x=>x)
 obtain ⟨hT,h₂⟩:=h₂
 unfold subscriptTail
 refine wpAny_bind ?_
 rw [getitemInPython_of_ne hT.not_modules]
 refine wpAny_bind (wpAny_specialOf hT hl ?_)
 have fin:wpAny (model prog w) A (subscripted slice false o i) (fun r s₃=>wpAny (model prog w) A (letTemporaryGo value o r >>= fun _=>pure r) Q E s₃) E s₂:=by
   rw [hs o i]
   exact wpAny_operating (wpAny_mono h₂ (fun r s₃ h₃=>wpAny_bind (wpAny_letTemporaryGo (wpAny_pure h₃))) fun _ _ x=>x)
 first
   | exact wpAny_pure (wpAny_bind fin)
   | exact wpAny_bind (wpAny_pure (wpAny_bind fin))
   | exact wpAny_bind fin
theorem dict_typeIs {X:Cx} {pins:List (Addr × Obj)} {σ:St} {H:Hp} {s:Shared} {a:Addr} {y:V} {o:Option V} (I:Inv X pins σ H s) (g:DGet H a y o):s.TypeIs (.ref a) "dict":=by
 rcases g with ⟨kvs,k,e,_,_⟩ | ⟨kvs,k,b,e,_,_,_⟩
 · obtain ⟨_,_,vs,_,dd⟩:=dk_rd I.hok e
   exact dd.typeIs
 · obtain ⟨_,_,xs,_,dd⟩:=dt_rd I.hok e
   exact dd.typeIs
def tDGet (td ty:TE):TE:=fun σ H Q=>td σ H fun x H1=>ty σ H1 fun y H2=>∃ a v,x=.ref a∧DGet H2 a y (some v)∧Q v H2
def tDIn (ty td:TE):TE:=fun σ H Q=>ty σ H fun y H1=>td σ H1 fun x H2=>∃ a o,x=.ref a∧DGet H2 a y o∧Q (.bl o.isSome) H2
def tDNotIn (ty td:TE):TE:=fun σ H Q=>ty σ H fun y H1=>td σ H1 fun x H2=>∃ a o,x=.ref a∧DGet H2 a y o∧Q (.bl (!o.isSome)) H2
def sDPut (td ty tv:TE):TS:=fun D σ H=>tv σ H fun v H1=>td σ H1 fun x H2=>ty σ H2 fun y H3=>∃ a H4,x=.ref a∧DPut H3 a y v H4∧D.nx σ H4
section
variable {X:Cx} {o i e value:Expr} {pos pos' tpos:Pos} {td ty tv:TE}
theorem pe_dget (hu:X.A.units + 1 < cLine) (ho:PE X o td) (hi:PE X i ty) (hs:NoSl i):PE X (.Subscript o i pos) (tDGet td ty):=by
 intro pins s σ H Q I h
 refine subD_of PySem.F.slot_dict_getitem.lookup hs (thnE (ho pins s σ H _ I h) fun u s1 x H1 I1 rx q1=>thnE (hi pins s1 σ H1 _ I1 q1) fun iv s2 y H2 I2 ry ⟨a,v,ex,g,q2⟩=>?_)
 subst ex
 obtain rfl:u=Value.ref a:=rx
 exact ⟨dict_typeIs I2 g,d_getItem hu I2 g ry fun w' s3 I3 rw'=>⟨v,H2,I3,rw',q2⟩⟩
theorem pc_din (hu:X.A.units + 1 < cLine) (hi:PE X i ty) (ho:PE X o td):PC X .In i o (tDIn ty td):=by
 intro pins s σ H Q I h
 refine thnE (hi pins s σ H _ I h) fun iv s1 y H1 I1 ry q1=>thnE (ho pins s1 σ H1 _ I1 q1) fun u s2 x H2 I2 rx ⟨a,ov,ex,g,q2⟩=>?_
 subst ex
 obtain rfl:u=Value.ref a:=rx
 exact d_in hu I2 g ry fun s3 I3=>⟨.bl ov.isSome,H2,I3,rfl,q2⟩
theorem pc_dnotin (hu:X.A.units + 1 < cLine) (hi:PE X i ty) (ho:PE X o td):PC X .NotIn i o (tDNotIn ty td):=by
 intro pins s σ H Q I h
 refine thnE (hi pins s σ H _ I h) fun iv s1 y H1 I1 ry q1=>thnE (ho pins s1 σ H1 _ I1 q1) fun u s2 x H2 I2 rx ⟨a,ov,ex,g,q2⟩=>?_
 subst ex
 obtain rfl:u=Value.ref a:=rx
 exact d_notIn hu I2 g ry fun s3 I3=>⟨.bl (!ov.isSome),H2,I3,rfl,q2⟩
theorem ps_dput (hu:X.A.units + 1 < cLine) (ho:PE X o td) (hi:PE X i ty) (hv:PE X value tv) (hs:swapsWith value (some (.Subscript o i pos')) pos.line X.env=pure false) :
   PS X (.Assign [.Subscript o i pos'] value pos) (sDPut td ty tv):=by
 intro pins s σ H D I h
 refine wpAny_Assign_Subscript (thnE (hv pins s σ H _ I h) fun r s1 v H1 I1 rv q1=>thnE (ho pins s1 σ H1 _ I1 q1) fun u s2 x H2 I2 rx q2=>thnE (hi pins s2 σ H2 _ I2 q2) fun iv s3 y H3 I3 ry ⟨a,H4,ex,g,q3⟩=>?_) hs
 subst ex
 obtain rfl:u=Value.ref a:=rx
 exact d_setItem hu I3 g ry rv fun s4 I4=>⟨σ,H4,I4,q3⟩
end
theorem dk_empty {P:Program} {w:World} {H:Hp} (h:Heap) (hb:sysModules < h.objs.size):ObjOk P w H (h.push { cls:=.type "dict",data:=.dict #[] }) h.objs.size (.dK []) :=
 ⟨Nat.zero_le _,beq_eq_false_iff_ne.mpr (Ne.symm (Nat.ne_of_lt hb)),[],.nil,Heap.DictOf.new h⟩
theorem dt_empty {P:Program} {w:World} {H:Hp} (h:Heap) (hb:sysModules < h.objs.size):ObjOk P w H (h.push { cls:=.type "dict",data:=.dict #[] }) h.objs.size (.dT []) :=
 ⟨Nat.zero_le _,beq_eq_false_iff_ne.mpr (Ne.symm (Nat.ne_of_lt hb)),[],.nil,_,#[],0,Heap.get?_push_size _ rfl,⟨rfl,rfl,rfl⟩,rfl,rfl,List.nodup_nil⟩
def tDNewK:TE:=fun _ H Q=>∀ p,H p=none→Q (.ref p) (upd H p (.dK []))
def tDNewT:TE:=fun _ H Q=>∀ p,H p=none→Q (.ref p) (upd H p (.dT []))
section
variable {X:Cx} {pos:Pos}
theorem pe_dnewT:PE X (.Dict [] [] pos) tDNewT:=fun pins s σ H Q I h =>
 wpAny_Dict_empty ⟨.ref s.heap.objs.size,_,I.laid (a:=s.heap.objs.size) (o:=.dT []) (t':=s.toks) (fun _ _ q=>Heap.get?_push_of_some _ q) (Nat.le_refl _) (dt_empty s.heap I.big),rfl,h _ (I.hok.fresh (Nat.le_refl _))⟩
end
def tPairs:List (TE × TE)→St→Hp→(List (V × V)→Hp→Prop)→Prop
 | [],_,H,Q=>Q [] H
 | (tk,tv) :: r,σ,H,Q=>tk σ H fun x H1=>tv σ H1 fun y H2=>tPairs r σ H2 fun ps H3=>Q ((x,y) :: ps) H3
abbrev VV:List (V × V)→List (Value × Value)→Prop:=Paired fun p q=>RelV p.1 q.1∧RelV p.2 q.2
def PPs (X:Cx) (pos:Pos) (keys:List (Option Expr)) (values:List Expr) (trs:List (TE × TE)):Prop :=
 ∀ (pins:List (Addr × Obj)) (s:Shared) (σ:St) (H:Hp) (Q:List (V × V)→Hp→Prop),Inv X pins σ H s→tPairs trs σ H Q →
   wpAny (model X.prog X.w) X.A (evalPairs (pairTrees keys values X.env pos)) (fun vs s'=>∃ ps H',Inv X pins σ H' s'∧VV ps vs∧Q ps H') X.xe s
theorem pps_nil {X:Cx} {pos:Pos}:PPs X pos [] [] []:=fun pins s σ H Q I h=>pairTrees_nil_walk ⟨[],H,I,.nil,h⟩
theorem pps_cons {X:Cx} {pos:Pos} {k v:Expr} {ks:List (Option Expr)} {vs:List Expr} {tk tv:TE} {trs:List (TE × TE)} (hk:PE X k tk) (hv:PE X v tv) (hr:PPs X pos ks vs trs) :
   PPs X pos (some k :: ks) (v :: vs) ((tk,tv) :: trs):=fun pins s σ H Q I h =>
 pairTrees_cons_walk (thnE (hk pins s σ H _ I h) fun u s1 x H1 I1 rx q1=>thnE (hv pins s1 σ H1 _ I1 q1) fun w2 s2 y H2 I2 ry q2 =>
   thn (hr pins s2 σ H2 _ I2 q2) fun ws s3 ⟨ps,H3,I3,rel,q3⟩=>⟨(x,y) :: ps,H3,I3,.cons ⟨rx,ry⟩ rel,q3⟩)
def mergeK (kvs more:List (Key × V)):List (Key × V):=more.foldl (fun acc kv=>putK acc kv.1 kv.2) kvs
theorem KV.merge:∀ {more:List (Key × V)} {rs:List (Key × Value)} {kvs:List (Key × V)} {vs:List (Key × Value)},KV more rs→KV kvs vs→KV (mergeK kvs more) (merged vs rs):=by
 intro more rs kvs vs r
 unfold KV at r
 induction r generalizing kvs vs with
 | nil=>intro q; exact q
 | @cons p q ps qs h t ih =>
   intro r0
   have e:KV (putK kvs p.1 p.2) (stored vs q.1 q.2):=by
     have:=r0.put p.1 h.2
     rw [← h.1]; exact this
   exact ih e
theorem length_mergeK:∀ (more kvs:List (Key × V)),(mergeK kvs more).length≤kvs.length + more.length
 | [],kvs=>by show kvs.length≤kvs.length + 0; omega
 | p :: r,kvs=>by
   have h1:=length_mergeK r (putK kvs p.1 p.2)
   have h2:=length_putK kvs p.1 p.2
   show (mergeK (putK kvs p.1 p.2) r).length≤_
   rw [List.length_cons]; omega
theorem carries_of {P:Program} {w:World}:∀ {kvs:List (Key × V)} {ws:List (Value × Value)},VV (kvs.map fun kv=>(kV kv.1,kv.2)) ws→∃ rs,Carries (mixKind P w) ws rs∧KV kvs rs
 | [],_,r=>by rw [List.map_nil] at r; cases r; exact ⟨[],True.intro,.nil⟩
 | p :: kvs,_,r=>by
   rw [List.map_cons] at r
   cases r with
   | @cons a b as bs h t =>
     obtain ⟨rs,c,q⟩:=carries_of (P:=P) (w:=w) t
     obtain ⟨b1,b2⟩:=b
     exact ⟨(p.1,b2) :: rs,⟨kV_is h.1,rfl,c⟩,.cons ⟨rfl,h.2⟩ q⟩
def tDisp (trs:List (TE × TE)):TE:=fun σ H Q=>∀ p,H p=none→tPairs trs σ (upd H p (.dK [])) fun ps H2=>H2 p=some (.dK [])∧∃ kvs:List (Key × V),ps=kvs.map (fun kv=>(kV kv.1,kv.2))∧kvs.length≤15∧Q (.ref p) (upd H2 p (.dK (mergeK [] kvs)))
theorem pe_disp {X:Cx} {pos:Pos} {keys:List (Option Expr)} {values:List Expr} {trs:List (TE × TE)} (h:PPs X pos keys values trs) (hall:keys.all (·.isSome)=true) (hl:keys.length=values.length) (h0:keys≠[])
   (h15:keys.length≤15):PE X (.Dict keys values pos) (tDisp trs):=by
 intro pins s σ H Q I q
 have hn:=I.hok.fresh (Nat.le_refl s.heap.objs.size)
 have I1:=I.laid (a:=s.heap.objs.size) (o:=.dK []) (h':=s.heap.push { cls:=.type "dict",data:=.dict #[] }) (t':=s.toks) (fun _ _ q=>Heap.get?_push_of_some _ q) (Nat.le_refl _) (dk_empty s.heap I.big)
 refine wpAny_Dict_walk (knd:=mixKind X.prog X.w) hall hl h0 h15 (thn (h pins _ σ _ _ I1 (q _ hn)) fun ws s2 ⟨ps,H2,I2,rel,e,kvs,ep,lk,q2⟩=>?_)
 subst ep
 obtain ⟨rs,c,rk⟩:=carries_of (P:=X.prog) (w:=X.w) rel
 obtain ⟨z,hd,vs0,r0,dd⟩:=dk_of I2.hok e
 cases r0
 refine ⟨rs,c,dd,fun h' dd' hs=>⟨.ref s.heap.objs.size,_,?_,rfl,q2⟩⟩
 have hz:(mergeK [] kvs).length≤sizeLine:=by
   have h1:=length_mergeK kvs []
   rw [List.length_nil] at h1
   rw [sizeLine_eq]; omega
 have he:∃ q,h'.get? s.heap.objs.size=some q:=let ⟨q,_,_,hq,_⟩:=dd'; ⟨q,hq⟩
 exact d_write I2 (by rw [e]; exact True.intro) hs he (dk_new hz hd (rk.merge .nil) dd')
section
variable {X:Cx} {pins:List (Addr × Obj)} {σ:St} {H:Hp} {s:Shared} {a:Addr} {y d:V} {u r:Value} {o:Option V} {A:Around} {E:Value→Shared→Prop}
end
section
variable {X:Cx} {o e f:Expr} {apos cpos:Pos} {td ty tx:TE}
end
section
variable {X:Cx} {pins:List (Addr × Obj)} {σ:St} {H:Hp} {s:Shared} {a:Addr} {kvs:List (Key × V)} {A:Around} {E:Value→Shared→Prop}
end
section
variable {X:Cx} {pins:List (Addr × Obj)} {σ:St} {H:Hp} {s:Shared} {a:Addr} {y:V} {u:Value} {A:Around} {E:Value→Shared→Prop}
end
end L2
namespace Att
open PySem PySem.W PySem.Calls PyProof.Rows
theorem ints_of_wellAll {P:Params} {h:Heap}:∀ (ns:List Int) (vs:List Value),WellAll P h vs (ns.map WData.int)→IntsAre vs ns:=by
 intro ns
 induction ns with
 | nil =>
   intro vs w
   rw [List.map_nil] at w
   cases w
   exact .nil
 | cons n ns ih =>
   intro vs w
   rw [List.map_cons] at w
   cases w with
   | cons a b =>
     cases a
     exact .cons _ _ (ih _ b)
theorem script_of {l:OpenLaw} {n:Nat} (hn:l.most=some n) {P:Params} {h:Heap} {args:List WData} {vals:List Value}
   (hpre:l.row.toRowW.claim.pre args=true) (hwl:WellAll P h vals args) :
   ∃ a vs ns,vals=[Value.ref a]∧args=[WData.list (ns.map WData.int)]∧h.get? a=some { cls:=.type "list",data:=.seq vs.toArray }∧IntsAre vs ns∧ns.length≤n:=by
 have hsh:WShape.hasAll [] args [.list .int]=true:=(pre_splitW hpre).1
 have hc:l.pre.holds [] { args:=args }=true:=(pre_splitW hpre).2
 obtain ⟨d,r,rfl,h1,h2⟩:=hasAllW_cons hsh
 obtain rfl:=hasAllW_nil h2
 obtain ⟨xs,rfl,h3⟩:=hasW_list h1
 obtain ⟨ns,rfl⟩:=items_int h3
 have hlen:ns.length≤n:=by
   unfold OpenLaw.pre at hc
   have h4:(WTm.not (.lt (.lit (.int (n:Int))) (.len (.arg 0)))).holds [] { args:=[.list (ns.map .int)] }=true:=by
     have h4:=(holds_andW hc).1
     rw [hn] at h4
     exact h4
   have h5:=condW_of h4 (w_not (w_lt w_lit (w_len_list (w_arg rfl))))
   rw [List.length_map] at h5
   refine Nat.le_of_not_lt fun q=>?_
   have q':(n:Int) < ((ns.length:Nat):Int):=by omega
   first
     | (rw [decide_eq_true q'] at h5; exact absurd h5 (by decide))
     | (simp at h5; omega)
 cases hwl with
 | cons w1 w2 =>
   cases w2
   cases w1 with
   | list ho hall=>exact ⟨_,_,ns,rfl,rfl,ho,ints_of_wellAll ns _ hall,hlen⟩
theorem post_true (l:OpenLaw) (args:List WData):l.row.toRowW.claim.post args (.bool true) args=true :=
 postW_of (r:=l.row.toRowW) (X:=(true == true))
   (show WShape.has [] (.bool true) .bool=true by first | rfl | decide | simp [WShape.has,WShape.arms,WShape.armsAll])
   (show (WTm.eq .res (.lit (.bool true))).value [] { args:=args,res:=some (.bool true),after:=args }=some (.bool (true == true)) from w_eq_bool (w_res rfl) w_lit) rfl
theorem attach_call {l:OpenLaw} {n:Nat} {q:Program} {loose:List Str} {XP:(Str→Option Value)→Heap→Prop} {YP:World→Heap→Prop} {d:DefRec}
   (hn:l.most=some n) (hdf:d.params.defaults=[])
   (call:∀ (w:World) (s₀ s₁:Shared) (mg mb:Str→Option Value) (fa:Addr) (o:Obj) (pm cd doc:Value) (a:Addr) (vs:List Value) (ns:List Int),
     Ground q loose [] XP w s₀ mg mb s₁.heap→YP w s₁.heap →
     s₁.heap.get? fa=some o→o.data=.func (docDef d.name d.params d.body d.scope pm cd doc)→s₁.heap.CodeRec cd d.name→mg d.name=some (.ref fa) →
     s₁.heap.get? a=some { cls:=.type "list",data:=.seq vs.toArray }→IntsAre vs ns→ns.length≤n→s₁.gens=#[] →
     codeAny (model l.prog w) callerA (.call (.ref fa) ⟨[.ref a],[]⟩) (fun r s'=>r=.ok (.ret (.bool true))∧OldK s₁.heap s'.heap∧s'.os=s₁.os∧AllBare s'.gens) s₁) :
   WalkO q loose XP YP l.row.toRowW d [] (fun f vs=>PySem.call f vs):=by
 intro w s₀ s₁ mg mb G Y fa o pm cd doc dV kV ho hd hcd hD hmg hg args vals as hpre hlay hrd hwl hlo
 obtain rfl:dV=.none:=Dflts.none hD hdf
 obtain rfl:kV=.none:=Dflts.noKw hD
 obtain ⟨a,vs,ns,rfl,rfl,hobj,hints,hlen⟩:=script_of hn hpre hwl
 refine enter_call (codeAny_mono (call w s₀ s₁ mg mb fa o pm cd doc a vs ns G Y ho (fd_plain hd) hcd hmg hobj hints hlen hg) fun r s' hq=>?_)
 obtain ⟨rfl,h2,h3,h4⟩:=hq
 exact ⟨.inl ⟨.bool true,.bool true,[],rfl,fun _=>rfl,.bool true,post_true l _,fun _=>⟨List.Pairwise.nil,fun _ hm=>(nomatch hm)⟩⟩,h2,h3,h4⟩
section
variable {prog:Program} {w:World} {A:Around} {E:Value→Shared→Prop} {s:Shared} {K:Frag}
end
end Att
namespace L2
open PySem PySem.Spec PyProof.Rows
theorem vals_ints:∀ {vs:List Value} {ns:List Int},IntsAre vs ns→Vals (ns.map V.int) vs
 | _,_,.nil=>.nil
 | _,_,.cons n t h=>.cons ⟨t,rfl⟩ (vals_ints h)
def Only (H:Hp):Prop:=∀ b,H b=none∨∃ o xs,H b=some (.frz o (.lst xs))
theorem law_call {P:Program} {w:World} {K:PySem.W.Frag} {mg mb:Str→Option Value} {CX:CXT} {k:Nat} {fa a:Addr} {fd:FuncData} {x:Str} {sp:Sp} {s₁:Shared} {vs:List Value} {ns:List Int}
   (KX:K.In s₁.heap) (hns:s₁.heap.Ns mainGlobals mg) (hb:s₁.heap.Ns builtinsNs mb) (hbb:∀ x:Str,x≠"__name__"→mb x=bootBuiltins x) (hlim:s₁.heap.NoLimit) (hg:s₁.gens=#[])
   (ha:s₁.heap.get? a=some { cls:=.type "list",data:=.seq vs.toArray }) (hi:IntsAre vs ns) (hl:ns.length≤sizeLine) (hr:Room k callerA)
   (F:∀ base:Heap,K.In base→base.Ns mainGlobals mg→FnOk P w K mg base CX k fa fd [x] sp) (hbind:∀ (s:Shared) (u:Value),BindsTo s fd ⟨[u],[]⟩ [(x,u)])
   (hsp:∀ H:Hp,Only H→SqL K H a (ns.map V.int)→sp [.ref a] H (fun v _=>v=.bl true) fun _ _ _=>False)
   (hCX:∀ H e s',CX [] H s₁ (fun _ _ _=>False) e s'→False) :
   codeAny (model P w) callerA (.call (.ref fa) ⟨[.ref a],[]⟩) (fun r s'=>r=.ok (.ret (.bool true))∧OldK s₁.heap s'.heap∧s'.os=s₁.os∧AllBare s'.gens) s₁:=by
 have rv:=vals_ints hi
 have lenV:=hi.length
 have core:∀ H:Hp,Only H→SqL K H a (ns.map V.int)→HOk P w H s₁.heap→(∀ b,H b≠none→b=a)→(H a≠none→K.lookup a=none) →
     codeAny (model P w) callerA (.call (.ref fa) ⟨[.ref a],[]⟩) (fun r s'=>r=.ok (.ret (.bool true))∧OldK s₁.heap s'.heap∧s'.os=s₁.os∧AllBare s'.gens) s₁:=by
   intro H hO hS hok hA hK
   have base_of:∀ {b:Addr} {o:Obj},s₁.heap.get? b=some o→H b=none→(hidT s₁.heap H).get? b=some o:=fun e n=>hidT_get e n
   have noA:∀ {b:Addr} {o:Obj} {es:Array DictEntry} {ep:Nat},s₁.heap.get? b=some o→o.data=.dict es ep→H b=none:=fun {b o es ep} e d=>by
     cases q:H b with
     | none=>rfl
     | some u =>
       have e':b=a:=hA b (by rw [q]; simp)
       subst e'
       rw [ha] at e; cases e
       have d':Data.seq vs.toArray _=Data.dict es ep:=d
       cases d'
   have nsK:∀ {b:Addr} {m:Str→Option Value},s₁.heap.Ns b m→(hidT s₁.heap H).Ns b m:=fun {b m} ⟨o,es,ep,e,d,r⟩=>⟨o,es,ep,base_of e (noA e d),d,r⟩
   have hKb:K.In (hidT s₁.heap H):=fun b o e=>base_of (KX b o e) (by
     cases q:H b with
     | none=>rfl
     | some u =>
       have e':b=a:=hA b (by rw [q]; simp)
       subst e'
       rw [hK (by rw [q]; simp)] at e; cases e)
   have hM:Mod K mg (hidT s₁.heap H):=⟨hKb,nsK hns,⟨mb,nsK hb,hbb⟩,let ⟨mc,h1,h2⟩:=hlim; ⟨mc,nsK h1,h2⟩⟩
   have e0:Env0 P w K mg (hidT s₁.heap H) callerA [] s₁ H:=⟨rfl,hM,fun b o e=>of_hidT e,Nat.le_of_eq (hidT_size _ _),trivial,fun b hb=>absurd (show b∈([]:List Addr) from hb) (by simp),hok,.of_eq hg⟩
   refine codeAny_mono ((F _ hKb (nsK hns)).run callerA [] s₁ H ⟨[.ref a],[]⟩ [.ref a] [.ref a] _ _ hr e0 (hbind s₁ (.ref a)) (.cons rfl .nil) (hsp H hO hS)) fun r s' h=>?_
   cases r with
   | error e=>exact (hCX H e s' h).elim
   | ok fl =>
     cases fl with
     | next=>exact False.elim h
     | brk=>exact False.elim h
     | cont=>exact False.elim h
     | ret u =>
       obtain ⟨v,H',os,bare,un,hok',r',q⟩:=h
       have q':v=.bl true:=q
       subst q'
       obtain rfl:u=Value.bool true:=r'
       refine ⟨rfl,OldK.of_keep fun b o e=>?_,os,bare⟩
       cases q:H b with
       | none=>exact un.keep b o e q (by intro z; exact absurd (show b∈([]:List Addr) from z) (by simp)) (by simp)
       | some u =>
         rcases hO b with z | ⟨ob,xs,z⟩
         · rw [q] at z; cases z
         · have z2:=un.frzs b ob _ z
           obtain ⟨e1,_⟩:=hok b _ z
           obtain ⟨e2,_⟩:=hok' b _ z2
           rw [e] at e1; cases e1
           exact e2
 cases hk:K.lookup a with
 | some o =>
   have e:=KX a o hk
   rw [ha] at e
   cases e
   refine core (fun _=>none) (fun _=>.inl rfl) (.inr ⟨_,vs.toArray,_,hk,rfl,rfl,rfl,by rw [List.size_toArray,lenV]; exact hl,by simpa using rv⟩) (fun b u z=>by have z':(none:Option HO)=some u:=z; cases z') (fun b z=>absurd rfl z) fun z=>absurd rfl z
 | none =>
   refine core (fun b=>if b=a then some (.frz { cls:=.type "list",data:=.seq vs.toArray } (.lst (ns.map V.int))) else none) (fun b=>?_) (.inl (.inr ⟨{ cls:=.type "list",data:=.seq vs.toArray },if_pos rfl⟩)) (fun b u z=>?_) (fun b z=>?_) fun _=>hk
   · by_cases hb:b=a
     · exact .inr ⟨_,_,if_pos hb⟩
     · exact .inl (if_neg hb)
   · by_cases hb:b=a
     · have z':=(if_pos hb).symm.trans z
       cases z'
       subst hb
       exact ⟨ha,by rw [List.length_map]; exact hl,vs,_,rv,ha⟩
     · have z':=(if_neg hb).symm.trans z
       cases z'
   · by_cases hb:b=a
     · exact hb
     · exact absurd (if_neg hb) z
end L2
namespace L2
open PySem PySem.Spec PyProof.Rows
theorem walk_of {l:PySem.W.OpenLaw} {n k:Nat} {q:Program} {loose:List Str} {XP:(Str→Option Value)→Heap→Prop} {YP:World→Heap→Prop} {d:DefRec} {K:Params→PySem.W.Frag} {CX:World→CXT} {sp:World→Sp} {x:Str}
   (hn:l.most=some n) (hn2:n≤sizeLine) (hdf:d.params.defaults=[]) (hr:Room k callerA)
   (hY:∀ (w:World) (h:Heap),YP w h→(K w.params).In h)
   (F:∀ (w:World) (mg:Str→Option Value) (fa:Addr) (h:Heap),(K w.params).In h→h.Ns mainGlobals mg→mg d.name=some (.ref fa) →
     ∃ fd:FuncData,(∀ (s:Shared) (u:Value),BindsTo s fd ⟨[u],[]⟩ [(x,u)]) ∧
       ∀ base:Heap,(K w.params).In base→base.Ns mainGlobals mg→FnOk l.prog w (K w.params) mg base (CX w) k fa fd [x] (sp w))
   (hsp:∀ (w:World) (H:Hp) (a:Addr) (ns:List Int),ns.length≤n→Only H→SqL (K w.params) H a (ns.map V.int)→sp w [.ref a] H (fun v _=>v=.bl true) fun _ _ _=>False)
   (hCX:∀ (w:World) (H:Hp) (s:Shared) (e:Value) (s':Shared),CX w [] H s (fun _ _ _=>False) e s'→False) :
   PySem.W.WalkO q loose XP YP l.row.toRowW d [] (fun f vs=>PySem.call f vs):=by
 refine Att.attach_call hn hdf fun w s₀ s₁ mg mb fa o pm cd doc a vs ns G Y ho hd hcd hmg hobj hints hlen hg=>?_
 have KX:=hY w _ Y
 obtain ⟨fd,hb,hF⟩:=F w mg fa _ KX G.T.g hmg
 exact law_call KX G.T.g G.T.b G.T.builtins G.T.nolimit hg hobj hints (Nat.le_trans hlen hn2) hr hF hb (fun H hO hS=>hsp w H a ns hlen hO hS) fun H e s'=>hCX w H s₁ e s'
end L2
namespace L2
open PySem PySem.Spec PyProof.Rows
def inClass (s:Stmt) (j:Nat):Stmt:=match s with
 | .ClassDef _ _ _ body _ _ _ _ _ _ _=>body.getD j (.Pass ⟨0,0,0,0⟩)
 | _=>.Pass ⟨0,0,0,0⟩
def defArgs (s:Stmt):Arguments:=match s with
 | .FunctionDef _ a _ _ _ _ _ _ _ _=>a
 | _=>{ posonlyargs:=[],args:=[],vararg:=none,kwonlyargs:=[],kw_defaults:=[],kwarg:=none,defaults:=[] }
def defBody (s:Stmt):List Stmt:=match s with
 | .FunctionDef _ _ b _ _ _ _ _ _ _=>b
 | _=>[]
def defScope (s:Stmt):Scope:=match s with
 | .FunctionDef _ _ _ _ _ _ sc _ _ _=>sc
 | _=>{ kind:=.function,names:=[],isGenerator:=false,isCoroutine:=false }
abbrev CX0:CXT:=fun _ _ _ _ _ _=>False
abbrev E0:XK:=fun _ _ _=>False
structure Fun (K:PySem.W.Frag) (x qual:Str) (st:Stmt) (f:Addr) (fd:FuncData):Prop where
 ex:∃ (oc:Value) (od:Option Addr) (kV doc pm:Value) (an:Option Addr) (cdv ct:Value) (osl:Array (Option Value)),
   fd=PySem.W.fnOf x qual (defArgs st) (defBody st) (defScope st) .none kV doc pm an cdv ct∧K.lookup f=some ⟨oc,od,.func fd,osl⟩∧PySem.W.codeIn K cdv qual=true
 kp:PySem.W.keepIn K (.ref f)=true
section
variable {P:Program} {w:World} {K:PySem.W.Frag} {mg:Str→Option Value} {base:Heap}
theorem Fun.binds {x qual:Str} {st:Stmt} {f:Addr} {fd:FuncData} {ps:List Str} (F:Fun K x qual st f fd)
   (h:∀ (kV doc pm:Value) (an:Option Addr) (cdv ct:Value) (us:List Value),us.length=ps.length→bindArgs (PySem.W.fnOf x qual (defArgs st) (defBody st) (defScope st) .none kV doc pm an cdv ct) ⟨us,[]⟩=pure (ps.zip us)):Binds K fd ps []:=by
 obtain ⟨oc,od,kV,doc,pm,an,cdv,ct,osl,rfl,lk,hcd⟩:=F.ex
 exact .all (h kV doc pm an cdv ct)
theorem fun_mk {x qual:Str} {st:Stmt} {f:Addr} {oc:Value} {od an:Option Addr} {osl:Array (Option Value)} {kV doc pm cdv ct:Value} (l:K.lookup f=some ⟨oc,od,.func (PySem.W.fnOf x qual (defArgs st) (defBody st) (defScope st) .none kV doc pm an cdv ct),osl⟩)
   (c:PySem.W.codeIn K cdv qual=true) (k:PySem.W.keepIn K (.ref f)=true):Fun K x qual st f (PySem.W.fnOf x qual (defArgs st) (defBody st) (defScope st) .none kV doc pm an cdv ct):=⟨⟨oc,od,kV,doc,pm,an,cdv,ct,osl,rfl,l,c⟩,k⟩
end
theorem hu_of {A:Around} {k:Nat} (hr:Room k A):A.units + 1 < cLine:=Nat.lt_of_le_of_lt (Nat.add_le_add_left (by decide:1≤64) _) hr.units
section
variable {X:Cx}
theorem pv (i:Nat) {x:Str} {pos:Pos} (hN:X.N[i]?=some x:=by rfl) (hv:Vis X.env.scope x:=by first | exact Or.inl rfl | exact Or.inr (Or.inl rfl) | exact Or.inr (Or.inr rfl)) (hd:(x == ("__debug__":Str))=false:=by decide)
   (hcd:(x == ("__classdict__":Str))=false:=by decide):PE X (.Name x pos) (tVar i):=pe_var hN hv hd hcd
end
theorem iteF {A B:Prop} (h:B):if false=true then A else B:=by
 rw [if_neg Bool.false_ne_true]
 exact h
theorem iteT {A B:Prop} (h:A):if true=true then A else B:=by
 rw [if_pos rfl]
 exact h
def Same (H H':Hp):Prop:=∀ b o,H b=some o→H' b=some o
theorem Same.refl (H:Hp):Same H H:=fun _ _ h=>h
theorem Same.trans {H H1 H2:Hp} (a:Same H H1) (b:Same H1 H2):Same H H2:=fun c o h=>b c o (a c o h)
theorem Same.free {H H':Hp} (e:Same H H') {l:Addr} (h:H' l=Option.none):H l=Option.none:=by
 cases q:H l with
 | none=>rfl
 | some o =>
   rw [e l o q] at h
   cases h
theorem Same.seq {K:PySem.W.Frag} {H H':Hp} {a:Addr} {xs:List V} (e:Same H H') (h:SqL K H a xs):SqL K H' a xs:=by
 rcases h with (h | ⟨o,h⟩) | h
 · exact .inl (.inl (e _ _ h))
 · exact .inl (.inr ⟨o,e _ _ h⟩)
 · exact .inr h
end L2
namespace L2
open PySem PySem.Spec PyProof.Rows
section
variable {X:Cx}
theorem call_lenD:CallR X (.builtin "len") (fun xs H Q=>∃ a kvs,xs=[V.ref a]∧H a=some (.dK kvs)∧Q (.int kvs.length) H):=by
 intro pins s σ H xs us Q I r h
 obtain ⟨a,kvs,rfl,ha,q⟩:=h
 obtain ⟨u,rfl,ru⟩:=vals1 r
 cases ru
 exact d_len I (.inl ha) fun t s' I'=>⟨.int kvs.length,H,I',⟨t,rfl⟩,q⟩
end
section
variable {κ:Type} [DecidableEq κ]
end
end L2
set_option Elab.async false
set_option linter.all false
set_option maxRecDepth 100000
namespace L2
open PySem PySem.Spec PyProof.Rows
def Cx.comp (X:Cx) (Nc:List Str) (scope:Scope) (cl:List (Str × Addr)) (C:Addr) (s₂:Shared) (H₁:Hp) (fp:List Addr):Cx where
 prog:=X.prog
 w:=X.w
 K:=X.K
 mg:=X.mg
 base:=X.base
 A:=X.A
 N:=Nc
 s₀:=s₂
 H₀:=H₁
 env:=compEnvC scope cl C X.env
 outer:=X.stack
 stack:=X.stack
 ex:=fp
 fn:=fun _=>false
 calm:=X.calm
 pn:=[]
 xe:=fun _ _=>False
structure CompTxt (X:Cx) (Nc:List Str) (own:Nat) (js:List Nat) (scope:Scope) (cl:List (Str × Addr)):Prop where
 clos:closureFor scope X.env=pure cl
 kind:scope.kind=.function
 nocell:∀ y∈scope.names,y.2≠.cell
 names:∀ y∈scope.names,y.2=.local→scope.names.lookup y.1=some .local
 cells:∀ x c,cl.lookup x=some c→X.env.cells.lookup x=some c
 has:∀ x,((relabel scope X.env).names.lookup x=some .cell∨(relabel scope X.env).names.lookup x=some .free)→∃ c,cl.lookup x=some c
 len:Nc.length=own + js.length
 outer:∀ i x,Nc[own + i]?=some x→∃ j,js[i]?=some j∧X.N[j]?=some x∧X.env.scope.names.lookup x=some .cell∧(relabel scope X.env).names.lookup x=some .cell
def compStart0 (own:Nat) (js:List Nat) (σ:St):St:=List.replicate own none ++ js.map fun j=>(σ[j]?).getD none
def tComp (own:Nat) (js:List Nat) (wi:TI) (g:TG) (tc:TT) (te:TE):TE:=fun σ H Q=>wi σ H fun J H1=>∀ p,H1 p=none →
 ∃ W:Nat→Nat→List V→St→Hp→Prop,(∃ m,W 0 m [] (compStart0 own js σ) (upd H1 p (.lst [])))∧∀ i m ys σc Hc,W i m ys σc Hc →
   (J.stop i Hc∧Q (.ref p) Hc)∨(J.go i Hc∧∀ x H',J.yld i Hc x H'→g x σc H' fun σ2 H2=>tc σ2 H2 fun b H3 =>
     if b=true then te σ2 H3 fun y H4=>H4 p=some (.lst ys)∧ys.length < sizeLine∧∃ m',m' < m∧W (i + 1) m' (ys ++ [y]) σ2 (upd H4 p (.lst (ys ++ [y])))
     else ∃ m',m' < m∧W (i + 1) m' ys σ2 H3)
def PTs (X:Cx) (ifs:List Expr) (t:TT):Prop :=
 ∀ (pins:List (Addr × Obj)) (s:Shared) (σ:St) (H:Hp) (Q:Bool→Hp→Prop),Inv X pins σ H s→t σ H Q →
   wpAny (model X.prog X.w) X.A (forIn ifs true fun c r=>if r=true then do let ok ← isTrue c X.env (eval c X.env); pure (ForInStep.yield ok) else pure (ForInStep.yield r)) (TP X pins σ Q) X.xe s
def tYes:TT:=fun _ H Q=>Q true H
theorem pts_nil {X:Cx}:PTs X [] tYes:=fun pins s σ H Q I h=>wpAny_tests_nil ⟨H,I,h⟩
theorem pts_one {X:Cx} {c:Expr} {t:TT} (h:PT X c t):PTs X [c] t:=fun pins s σ H Q I q=>wpAny_tests_one (h pins s σ H Q I q)
section
variable {prog:Program} {w:World} {A:Around} {E:Value→Shared→Prop} {R:Result→Shared→Prop} {s:Shared}
theorem compLoop_go {elt target iter:Expr} {ifs:List Expr} {scope:Scope} {pos:Pos} {it acc:Value} {env:Env} (I:Nat→Shared→Prop)
   (turn:∀ n s,I n s→wpAny (model prog w) A (pyNext it) (fun r s₁=>match r with
     | none=>R (.ok .next) s₁
     | some v=>wpAny (model prog w) A (letOwnedTupleGo target it v) (fun _ s₁'=>wpAny (model prog w) A (assign target env v) (fun _ s₂ =>
         wpAny (model prog w) A (forIn ifs true fun c r=>if r=true then do let ok ← isTrue c env (eval c env); pure (ForInStep.yield ok) else pure (ForInStep.yield r)) (fun ok s₃ =>
           if ok=true then wpAny (model prog w) A (eval elt env) (fun x s₄ =>
             wpAny (model prog w) A (call (.builtin "list.append") [acc,x]) (fun _ s₅=>∃ m,m < n∧I m s₅) (fun _ _=>False) s₄) (fun _ _=>False) s₃
           else ∃ m,m < n∧I m s₃) (fun _ _=>False) s₂) (fun _ _=>False) s₁') (fun _ _=>False) s₁) (fun _ _=>False) s)
   (n:Nat) (h:I n s) :
   codeAny (model prog w) A (.compLoop (.ListComp elt [⟨target,iter,ifs,0⟩] scope pos) 0 it acc env) R s:=by
 refine codeAny_loop rfl I (fun n s hI=>?_) n h
 show wpAny _ A ((compTurn (.ListComp elt [⟨target,iter,ifs,0⟩] scope pos) 0 it acc env).onRaise (fun x=>do noteFrame x env; theTreesLotGoes x)) _ _ s
 refine wpAny_noted ?_
 rw [compTurn_list]
 refine wpAny_bind (wpAny_standAt (wpAny_bind (wpAny_mono (turn n s hI) (fun r s₁ h₁=>?_) fun _ _ h'=>h'.elim)))
 cases r with
 | none=>exact wpAny_pure h₁
 | some v =>
   refine wpAny_bind (wpAny_mono h₁ (fun _ s₁' h₁'=>?_) fun _ _ h'=>h'.elim)
   refine wpAny_bind (wpAny_mono h₁' (fun _ s₂ h₂=>wpAny_bind (wpAny_mono h₂ (fun ok s₃ h₃=>?_) fun _ _ h'=>h'.elim)) fun _ _ h'=>h'.elim)
   cases ok with
   | true =>
     rw [if_pos rfl] at h₃
     simp only [if_true]
     exact wpAny_bind (wpAny_bind (wpAny_mono h₃ (fun x s₄ h₄=>wpAny_bind (wpAny_mono h₄ (fun _ s₅ h₅=>wpAny_pure (wpAny_pure ⟨rfl,h₅⟩)) fun _ _ h'=>h'.elim)) fun _ _ h'=>h'.elim))
   | false =>
     rw [if_neg Bool.false_ne_true] at h₃
     simp only [Bool.false_eq_true,if_false]
     first
       | exact wpAny_pure ⟨rfl,h₃⟩
       | exact wpAny_bind (wpAny_pure (wpAny_pure ⟨rfl,h₃⟩))
end
end L2
set_option Elab.async false
set_option linter.all false
set_option maxRecDepth 100000
namespace L2
open PySem PySem.Spec PyProof.Rows
section
variable {X:Cx} {Nc:List Str} {own:Nat} {js:List Nat} {scope:Scope} {cl:List (Str × Addr)}
theorem comp_ok {pins:List (Addr × Obj)} {σ:St} {H₁:Hp} {s₂:Shared} {C:Addr} {fp:List Addr} (T:CompTxt X Nc own js scope cl) (I:Inv X pins σ H₁ s₂) (hC:s₂.heap.objs.size≤C)
   (f1:∀ b∈fp,FpOk X pins H₁ b) (hlt:∀ b∈fp,b < s₂.heap.objs.size):(X.comp Nc scope cl C s₂ H₁ fp).Ok where
 mod:=I.ok.mod
 kind:=by show (relabel scope X.env).kind=_; exact T.kind
 glob:=I.ok.glob
 blt:=I.ok.blt
 above:=hC
 inj:=fun x y c h1 h2=>I.ok.inj x y c (T.cells x c h1) (T.cells y c h2)
 has:=fun x h=>T.has x h
 cab:=fun x c h=>by cases h
 hd:=I.ok.hd
 frames:=I.ok.frames
 stk:=.inl rfl
 exf:=fun b hb=>⟨Nat.ne_of_lt (Nat.lt_of_lt_of_le (hlt b hb) hC),fun x c h=>(f1 b hb).2.2.2.2.1 x c (T.cells x c h)⟩
 bs:=I.bs
 bsz:=Nat.le_trans I.ok.bsz I.sz
 noex:=fun b o e hb=>by
   rcases (f1 b hb).2.2.2.1 with z | z
   · exact I.ok.noex b o e z
   · exact absurd (Nat.lt_of_lt_of_le (Heap.lt_size (I.ok.bs b o e).1) z) (Nat.lt_irrefl _)
 exfs:=fun b hb hs=>by
   rcases List.mem_cons.mp (I.stkSub b hs) with z | z
   · exact (f1 b hb).2.1 z
   · exact (f1 b hb).2.2.1 z
 funs:=I.stack
 frf:=I.stkFree
theorem comp_inv {pins:List (Addr × Obj)} {σ:St} {H₁:Hp} {s₂:Shared} {C D:Addr} {fp:List Addr} {h₁:Heap} {t:Nat} {m:Str→Option Value} (T:CompTxt X Nc own js scope cl) (I:Inv X pins σ H₁ s₂) (hC:s₂.heap.objs.size≤C)
   (hD:s₂.heap.objs.size≤D) (hDC:D≠C) (f1:∀ b∈fp,FpOk X pins H₁ b) (hlt:∀ b∈fp,b < s₂.heap.objs.size) (old:∀ b o,s₂.heap.get? b=some o→h₁.get? b=some o) (hns:h₁.Ns C m)
   (hacc:∃ n,h₁.get? D=some { cls:=.type "list",data:=.seq ([]:List Value).toArray n }) :
   Inv (X.comp Nc scope cl C s₂ H₁ fp) [] (compStart0 own js σ) (upd H₁ D (.lst [])) { s₂ with heap:=h₁,toks:=t }:=by
 obtain ⟨na,hacc⟩:=hacc
 have cellK:∀ c v,s₂.heap.IsCell c v→h₁.IsCell c v:=fun c v ⟨o,ho,hd⟩=>⟨o,old c o ho,hd⟩
 refine ⟨comp_ok T I hC f1 hlt,rfl,I.bare,Un.laid old hD (I.hok.fresh hD),⟨m,hns,fun i x v e1 e2 e3=>?_⟩,fun x c e=>?_,?_,fun x c e=>?_,fun p hp=>(by cases hp),I.hok.laid old hD ?_,?_⟩
 · have hN:Nc[i]?=some x:=e1
   have hσ:(compStart0 own js σ)[i]?=some (some v):=e2
   unfold compStart0 at hσ
   by_cases hi:i < own
   · rw [List.getElem?_append_left (by simpa using hi),List.getElem?_replicate] at hσ
     simp [hi] at hσ
   · obtain ⟨k,rfl⟩:∃ k,i=own + k:=⟨i - own,by omega⟩
     rw [List.getElem?_append_right (by simp)] at hσ
     simp only [List.length_replicate,Nat.add_sub_cancel_left,List.getElem?_map] at hσ
     obtain ⟨j,hj,hx,hk,hr⟩:=T.outer k x hN
     rw [hj] at hσ
     replace hσ:some (σ[j]?.getD none)=some (some v):=hσ
     have hσj:σ[j]?=some (some v):=by
       cases q:σ[j]? with
       | none=>rw [q] at hσ; simp at hσ
       | some y=>rw [q] at hσ; simpa using hσ
     obtain ⟨m0,hn0,hl0⟩:=I.loc
     obtain ⟨u,ru,lk⟩:=hl0 j x v hx hσj (.inr (.inl hk))
     refine ⟨u,ru,.inr ⟨.inl hr,?_⟩⟩
     rcases lk with ⟨z,_⟩ | ⟨_,c,hc,hcell⟩
     · have z':X.env.scope.names.lookup x=some .local:=z
       rw [hk] at z'; cases z'
     · obtain ⟨c',hc'⟩:=T.has x (.inl hr)
       have:=T.cells x c' hc'
       rw [hc] at this; cases this
       exact ⟨c,hc',cellK c _ hcell⟩
 · obtain ⟨v,z⟩:=I.cell x c (T.cells x c e)
   exact ⟨v,cellK c v z⟩
 · show upd H₁ D (.lst []) C=none
   rw [upd_ne (Ne.symm hDC)]
   exact I.hok.fresh hC
 · have e':=T.cells x c e
   obtain ⟨v,o,ho,_⟩:=I.cell x c e'
   rw [upd_ne (Nat.ne_of_lt (Nat.lt_of_lt_of_le (Heap.lt_size ho) hD))]
   exact I.freeC x c e'
 · exact ⟨Nat.zero_le _,[],na,.nil,hacc⟩
 · show (compStart0 own js σ).length=Nc.length
   rw [T.len]
   simp [compStart0]
theorem comp_back {pins:List (Addr × Obj)} {σ σc:St} {H₁ H':Hp} {s₂ s':Shared} {C:Addr} {fp:List Addr} {h':Heap} (I:Inv X pins σ H₁ s₂) (hC:s₂.heap.objs.size≤C)
   (f1:∀ b∈fp,FpOk X pins H₁ b) (I':Inv (X.comp Nc scope cl C s₂ H₁ fp) [] σc H' s') (hs:Heap.SameBut C s'.heap h'):Inv X pins σ H' { s' with heap:=h' }:=by
 have u:Un (frs X.stack) fp H₁ H' s₂.heap s'.heap:=I'.base
 have ne:∀ b o,s₂.heap.get? b=some o→b≠C:=fun b o e=>Nat.ne_of_lt (Nat.lt_of_lt_of_le (Heap.lt_size e) hC)
 have k:∀ b o,b≠C→s'.heap.get? b=some o→h'.get? b=some o:=fun b o n e=>hs.extBut b o n e
 have u':Un (frs X.stack) fp H₁ H' s₂.heap h':=⟨fun b o e n hb hx=>k b o (ne b o e) (u.keep b o e n hb hx),fun b o e n hb hx=>let ⟨sl,q⟩:=u.slot b o e n hb hx; ⟨sl,k b _ (ne b o e) q⟩,
   u.free,fun b o e hx=>let ⟨o',q⟩:=u.there b o e hx; ⟨o',k b o' (ne b o e) q⟩,u.tups,u.frzs,u.tbls⟩
 have hfree:H' C=none:=I'.free
 have hok':HOk X.prog X.w H' h':=fun a o e=>(I'.hok a o e).stay (fun b v hb q=>k b v (fun z=>by
   rcases hb with y | y
   · rw [y] at z; rw [z,hfree] at e; cases e
   · rw [z,hfree] at y; cases y) q) (fun _ q=>q) fun _ _ q=>q
 exact I.call' (s':={ s' with heap:=h' }) (ch:=fp) I'.os u' hok' I'.bare fun b hb=>⟨(f1 b hb).2.2.2.1,(f1 b hb).2.1,(f1 b hb).2.2.2.2.1,(f1 b hb).2.2.2.2.2⟩
theorem pe_comp {elt target iter:Expr} {ifs:List Expr} {pos:Pos} {wi:TI} {g:TG} {tc:TT} {te:TE} (hc:X.calm=true) (T:CompTxt X Nc own js scope cl)
   (hi:PI X target iter wi) (hg:∀ C s₂ H₁ fp,PG (X.comp Nc scope cl C s₂ H₁ fp) target g) (ht:∀ C s₂ H₁ fp,PTs (X.comp Nc scope cl C s₂ H₁ fp) ifs tc)
   (he:∀ C s₂ H₁ fp,PE (X.comp Nc scope cl C s₂ H₁ fp) elt te) (hs:∀ x,foldedSetIterable iter X.env x=pure x:=by intro _; rfl) :
   PE X (.ListComp elt [⟨target,iter,ifs,0⟩] scope pos) (tComp own js wi g tc te):=by
 intro pins s σ H Q I h
 rw [eval_ListComp]
 refine wpAny_comprehension_free (use:=none) rfl hs T.clos T.kind T.names (thn (hi pins s σ H _ I h) fun v s1 h1=>thn h1 fun itv s2 h2=>?_)
 obtain ⟨it,fp,tn,J,H1,rfl,I1,Tn,st,f1,R⟩:=h2
 have hfp:∀ b∈fp,b < s2.heap.objs.size:=fun b hb=>let ⟨o,e,_⟩:=Tn.obj _ _ st b hb; Heap.lt_size e
 refine wpAny_newObj_type (wpAny_newFunctionEnv T.nocell (by intro y hy; simp at hy) (fun h₁ hns₁ hsb₁=>?_) T.kind)
 dsimp only at hns₁ hsb₁ ⊢
 generalize hH2:s2.heap.push { cls:=.type "list",dict:=none,data:=.seq ([]:List Value).toArray }=H2 at hns₁ hsb₁ ⊢
 have hC:H2.objs.size=s2.heap.objs.size + 1:=by rw [← hH2,Heap.size_push]
 have hDC:s2.heap.objs.size≠H2.objs.size:=by rw [hC]; exact Nat.ne_of_lt (Nat.lt_succ_self _)
 have hCle:s2.heap.objs.size≤H2.objs.size:=by rw [hC]; exact Nat.le_succ _
 have below:∀ b,b < s2.heap.objs.size→b≠H2.objs.size:=fun b hb=>by rw [hC]; exact Nat.ne_of_lt (Nat.lt_succ_of_lt hb)
 have old:∀ b o,s2.heap.get? b=some o→h₁.get? b=some o:=fun b o e=>hsb₁.extBut b o (below b (Heap.lt_size e)) (Heap.get?_push_of_some _ (hH2 ▸ Heap.get?_push_of_some _ e))
 have hacc:∃ n,h₁.get? s2.heap.objs.size=some { cls:=.type "list",data:=.seq ([]:List Value).toArray n }:=⟨_,hsb₁.extBut _ _ hDC (Heap.get?_push_of_some _ (hH2 ▸ Heap.get?_push_size _ rfl))⟩
 have st₁:tn 0 h₁:=Tn.keep _ _ _ st fun b _ o e=>old b o e
 obtain ⟨W,⟨m0,w0⟩,turn⟩:=R s2.heap.objs.size I1.fresh
 have Ic:=comp_inv (t:=s2.toks + ([]:List (Str × Value)).length) T I1 hCle (Nat.le_refl _) hDC f1 hfp old hns₁ hacc
 generalize hXc:X.comp Nc scope cl H2.objs.size s2 H1 fp=Xc at Ic
 have stat:∀ {H':Hp},(∀ b∈fp,H' b=none)→∀ b∈fp,FpOk Xc [] H' b:=fun {H'} hn b hb=>by
   subst hXc
   exact ⟨hn b hb,below b (hfp b hb),(comp_ok T I1 hCle f1 hfp).exfs b hb,.inl hb,fun x c e=>(f1 b hb).2.2.2.2.1 x c (T.cells x c e),fun p hp=>by cases hp⟩
 have fr0:∀ b∈fp,upd H1 s2.heap.objs.size (.lst []) b=none:=fun b hb=>by
   rw [upd_ne (Nat.ne_of_lt (hfp b hb))]
   exact (f1 b hb).1
 have calmc:Xc.calm=true:=by subst hXc; exact hc
 have loop:∀ s₃:Shared,s₃={ s2 with heap:=h₁,toks:=s2.toks + ([]:List (Str × Value)).length } →
     codeAny (model X.prog X.w) X.A (.compLoop (.ListComp elt [⟨target,iter,ifs,0⟩] scope pos) 0 (.ref it) (.ref s2.heap.objs.size) (compEnvC scope cl H2.objs.size X.env))
       (compPost (model X.prog X.w) X.A X.xe none (EP X pins σ Q) (.ref s2.heap.objs.size) H2.objs.size) s₃:=by
   rintro s₃ rfl
   refine compLoop_go (fun n s'=>∃ i ys σ' H',Inv Xc [] σ' H' s'∧tn i s'.heap∧(∀ b∈fp,H' b=none)∧W i n ys σ' H') ?_ m0 ⟨0,[],_,_,Ic,st₁,fr0,w0⟩
   rintro n s3 ⟨i,ys,σ3,H3,I3,st3,fr3,w3⟩
   rcases turn i n ys σ3 H3 w3 with ⟨stop,q⟩ | ⟨go,step⟩
   · subst hXc
     refine thn (Tn.done (X.comp Nc scope cl H2.objs.size s2 H1 fp) rfl rfl rfl hc i [] s3 σ3 H3 _ I3 (stat fr3) st3 stop) fun r s4 ⟨hr,I4⟩=>?_
     subst hr
     obtain ⟨m4,hn4,_⟩:=id I4.loc
     exact ⟨m4,hn4,fun h' hs'=>⟨.ref s2.heap.objs.size,H3,comp_back I1 hCle f1 I4 hs',rfl,q⟩⟩
   · subst hXc
     refine thn (Tn.item (X.comp Nc scope cl H2.objs.size s2 H1 fp) rfl rfl rfl hc i [] s3 σ3 H3 _ I3 (stat fr3) st3 go) fun r s4 ⟨u,hr,h4⟩=>?_
     subst hr
     refine thn h4 fun _ s5 ⟨x,H5,I5,r5,y5,st5,fr5⟩=>?_
     have I5':=I5.pinned (stat fr5) (Tn.obj _ _ st5)
     have back:∀ {σ7:St} {H7:Hp} {s7:Shared},Inv (X.comp Nc scope cl H2.objs.size s2 H1 fp) ([] ++ pinsAt fp s5.heap) σ7 H7 s7→Inv (X.comp Nc scope cl H2.objs.size s2 H1 fp) [] σ7 H7 s7∧tn (i + 1) s7.heap∧∀ b∈fp,H7 b=none:=fun {σ7 H7 s7} I7=>by
       refine ⟨I7.unpinned,Tn.keep _ _ _ st5 fun b hb o e=>(I7.pin (b,o) (List.mem_append_right _ (List.mem_append_right _ (mem_pinsAt hb e)))).1,fun b hb=>?_⟩
       obtain ⟨o,e,d⟩:=Tn.obj _ _ st5 b hb
       exact (I7.pin (b,o) (List.mem_append_right _ (List.mem_append_right _ (mem_pinsAt hb e)))).2.1
     refine thn (hg _ _ _ _ _ s5 σ3 H5 x u _ I5' r5 (step x H5 y5)) fun _ s6 ⟨σ6,H6,I6,q6⟩=>?_
     refine thnT (ht _ _ _ _ _ s6 σ6 H6 _ I6 q6) fun ok s7 H7 I7 q7=>?_
     cases ok with
     | false =>
       rw [if_neg Bool.false_ne_true] at q7 ⊢
       obtain ⟨m',hm,w7⟩:=q7
       obtain ⟨J1,J2,J3⟩:=back I7
       exact ⟨m',hm,i + 1,ys,σ6,H7,J1,J2,J3,w7⟩
     | true =>
       rw [if_pos rfl] at q7 ⊢
       refine thnE (he _ _ _ _ _ s7 σ6 H7 _ I7 q7) fun y s8 yv H8 I8 r8 ⟨hp8,hl8,m',hm,w8⟩=>?_
       refine thn (mt_append _ s8 σ6 H8 (.ref s2.heap.objs.size) [yv] _ [y] (fun v' H'=>W (i + 1) m' (ys ++ [yv]) σ6 H') I8 rfl (.cons r8 .nil) ⟨_,ys,yv,rfl,rfl,hp8,hl8,w8⟩) fun v9 s9 ⟨_,H9,I9,_,w9⟩=>?_
       obtain ⟨J1,J2,J3⟩:=back I9
       exact ⟨m',hm,i + 1,ys ++ [yv],σ6,H9,J1,J2,J3,w9⟩
 exact codeAny_compStart_list (loop _ rfl) (Tn.self _ 0 _ _ _ st₁ (loop _ rfl))
end
end L2
set_option Elab.async false
set_option linter.all false
set_option maxRecDepth 100000
namespace L2
open PySem PySem.Spec PyProof.Rows
section
variable {X:Cx}
def rInsert:V→List V→Hp→VK→Prop:=fun x vs H Q=>∃ (l:Addr) (xs:List V) (i:Int) (y:V),x=.ref l∧vs=[.int i,y]∧H l=some (.lst xs)∧0≤i∧i≤xs.length∧xs.length < sizeLine∧Q .non (upd H l (.lst (xs.take i.toNat ++ y :: xs.drop i.toNat)))
theorem mt_insert:MtM X "list.insert" rInsert:=by
 intro pins s σ H x vs v us Q I rx rv h
 obtain ⟨l,xs,i,y,rfl,rfl,hH,h0,hk,hz,q⟩:=h
 cases rx
 obtain ⟨u1,u2,rfl,⟨t,rfl⟩,ru⟩:=rv.two
 obtain ⟨z,its,n,r,hl,e⟩:=I.lstM hH
 have hn:=line63
 have hf:Builtin.List.listFitsIndex i=true:=by
   unfold Builtin.List.listFitsIndex
   rw [Bool.and_eq_true]
   exact ⟨decide_eq_true (by omega),decide_eq_true (by omega)⟩
 have hf':¬ (!Builtin.List.listFitsIndex i)=true:=by rw [hf]; decide
 have hzz:its.toArray.size≤sizeLine:=by rw [List.size_toArray,← hl]; exact z
 refine call_meets PySem.F.slot_list_insert ⟨_,e,rfl⟩ PySem.F.entry_list_insert (PySem.F.args_list_insert_3 _ _ _) (PySem.AutoSeq1.list_insert_list_int_val_1 l its.toArray n i t u2 hf' hzz) ⟨e,?_⟩
 refine ⟨.non,_,I.lset (its':=its.take i.toNat ++ u2 :: its.drop i.toNat) hH e ?_ ((r.take i.toNat).append (.cons ru (r.drop i.toNat))) ?_,rfl,q⟩
 · show (its.toArray.extract 0 (if i < 0 then (i + (its.toArray.size:Int)).toNat else min i.toNat its.toArray.size)).push u2 ++ its.toArray.extract (if i < 0 then (i + (its.toArray.size:Int)).toNat else min i.toNat its.toArray.size)=_
   have e0:(if i < 0 then (i + (its.toArray.size:Int)).toNat else min i.toNat its.toArray.size)=i.toNat:=by
     rw [if_neg (by omega),List.size_toArray]
     omega
   rw [e0]
   exact PySem.W.kl_ins_eq its i.toNat u2
 · rw [List.length_append,List.length_cons,List.length_take,List.length_drop]
   omega
theorem call_all (hc:X.calm=true):CallR X (.builtin "all") (fun xs H Q=>∃ (p:Addr) (bs:List Bool),xs=[.ref p]∧SqL X.K H p (bs.map V.bl)∧Q (.bl (bs.all id)) H):=by
 intro pins s σ H xs us Q I r h
 obtain ⟨p,bs,rfl,hp,q⟩:=h
 obtain ⟨u,rfl,ru⟩:=vals1 r
 cases ru
 obtain ⟨its,rv,pl,hz⟩:=I.list hp
 have hl:=pl.isList
 have hlt:=pl.lt
 have hh:X.A.in1.handled=none:=I.ok.hd hc
 have hlen:its.length=bs.length:=by rw [← rv.length,List.length_map]
 refine call_all_walk (wpAny_pyIter_list hl ?_)
 refine ⟨s.heap.objs.size,[s.heap.objs.size,p],[s.heap.objs.size],its.toArray.size,_,_,fun i=>(bs[i]?).getD true,rfl,Walks.list (A:=X.A.in1) hh _ p (Nat.ne_of_lt hlt) its.toArray,
   ⟨⟨_,Heap.get?_push_size _ rfl,rfl,rfl⟩,hl.push _⟩,fun i v s' Q' E' hP hQ=>?_,fun h' tk hk=>?_⟩
 · have hi:its[i]?=some v:=by simpa using hP
   have hib:i < bs.length:=by rw [← hlen]; exact (List.getElem?_eq_some_iff.mp hi).1
   obtain ⟨u,hu,ru⟩:=rv.get (i:=i) (x:=V.bl bs[i]) (by rw [List.getElem?_map,List.getElem?_eq_getElem hib]; rfl)
   rw [hi] at hu; cases hu
   cases ru
   replace hQ:Q' (bs[i]?.getD true) s':=hQ
   rw [List.getElem?_eq_getElem hib] at hQ
   exact wpAny_truthy_bool hQ
 · have e:((List.range its.toArray.size).all fun i=>(bs[i]?).getD true)=bs.all id:=by
     rw [List.size_toArray,hlen]
     rw [Bool.eq_iff_iff,List.all_eq_true,List.all_eq_true]
     constructor
     · intro z b hb
       obtain ⟨i,hi,rfl⟩:=List.getElem_of_mem hb
       have:=z i (List.mem_range.mpr hi)
       rw [List.getElem?_eq_getElem hi] at this
       exact this
     · intro z i hi
       have hi':=List.mem_range.mp hi
       rw [List.getElem?_eq_getElem hi']
       exact z _ (List.getElem_mem hi')
   have kk:∀ b o,s.heap.get? b=some o→h'.get? b=some o:=fun b o eb=>hk b o (fun hm=>by rw [List.mem_singleton.mp hm] at eb; exact Nat.lt_irrefl _ (Heap.lt_size eb)) (Heap.get?_push_of_some _ eb)
   rw [e]
   exact ⟨.bl _,H,I.kept (t':=tk) kk,rfl,q⟩
end
section
variable {X:Cx}
end
end L2
set_option Elab.async false
set_option linter.all false
set_option maxRecDepth 100000
namespace L2
open PySem PySem.Spec PyProof.Rows
section
variable {P:Program} {w:World} {A:Around} {E:Value→Shared→Prop} {s:Shared}
end
end L2
set_option Elab.async false
set_option linter.all false
set_option maxRecDepth 100000
namespace L2
open PySem PySem.Spec PyProof.Rows
section
variable {P:Program} {w:World} {A:Around} {E:Value→Shared→Prop} {s:Shared} {l1 l2:Addr} {ob1 ob2:Obj} {src1 src2:Heap→Array Value→Prop} {at1 at2:Addr→Nat→Heap→Prop}
end
def SqX (K:PySem.W.Frag):Bool→Hp→Addr→List V→Prop
 | true,H,a,xs=>SqL K H a xs
 | false,H,a,xs=>SqT K H a xs
def Itz (K:PySem.W.Frag) (c d:Bool) (a b:Addr):It :=
 ⟨fun i H=>∃ xs ys x y,SqX K c H a xs∧SqX K d H b ys∧xs[i]?=some x∧ys[i]?=some y,
  fun i H v H'=>∃ p x y,H p=none∧v=.ref p∧H'=upd H p (.tup [x,y])∧(∀ xs,SqX K c H a xs→xs[i]?=some x)∧∀ ys,SqX K d H b ys→ys[i]?=some y,
  fun i H=>∃ xs ys,SqX K c H a xs∧SqX K d H b ys∧(xs.length≤i∨ys.length≤i)⟩
end L2
set_option Elab.async false
set_option linter.all false
set_option maxRecDepth 100000
namespace L2
open PySem PySem.Spec PyProof.Rows
section
variable {X:Cx} {pins:List (Addr × Obj)} {σ:St} {H H2:Hp} {s s2:Shared} {a:Addr} {o:HO}
end
section
variable {P:Program} {w:World} {A:Around} {E:Value→Shared→Prop} {s:Shared}
end
end L2
set_option Elab.async false
set_option linter.all false
set_option maxRecDepth 100000
namespace L2
open PySem PySem.Spec PyProof.Rows
section
variable {P:Program} {w:World} {A:Around} {E:Value→Shared→Prop} {s:Shared} {R:Result→Shared→Prop}
end
section
variable {X:Cx} {e:Expr} {te:TE} {p1 p2 pos pos2:Pos}
end
end L2
set_option Elab.async false
set_option linter.all false
set_option maxRecDepth 100000
namespace L2
open PySem PySem.Spec PyProof.Rows
section
variable {X:Cx}
def iZip (K:PySem.W.Frag) (c d:Bool) (ta:TA):TI:=fun σ H R=>ta σ H fun vs H1=>∃ a b,vs=[.ref a,.ref b]∧(∃ xs,SqX K c H1 a xs)∧(∃ ys,SqX K d H1 b ys)∧R (Itz K c d a b) H1
end
end L2
set_option linter.all false
namespace Pb
structure Road where
 a:Int
 b:Int
 t:Int
 u:Int
 deriving DecidableEq
def Joined (m:Int) (rs:List Road):Prop:=∀ S:Int→Prop,S 0→(∀ r∈rs,(S r.a↔S r.b))→∀ v,0≤v→v < m→S v
structure RoadOk (m:Int) (r:Road):Prop where
 a0:0≤r.a
 a1:r.a < m
 b0:0≤r.b
 b1:r.b < m
 ne:r.a≠r.b
 t0:2≤r.t
 t1:r.t≤1000000
 u0:2≤r.u
 u1:r.u≤1000000
structure Good (m:Int) (rs:List Road):Prop where
 m1:1≤m
 m24:m≤24
 len:(rs.length:Int)=m - 1
 ok:∀ r∈rs,RoadOk m r
 jn:Joined m rs
theorem nodup_le {α:Type} [DecidableEq α]:∀ {l l':List α},l.Nodup→(∀ x∈l,x∈l')→l.length≤l'.length
 | [],_,_,_=>Nat.zero_le _
 | x :: r,l',hn,hs=>by
   obtain ⟨h1,h2⟩:=List.nodup_cons.mp hn
   have hx:x∈l':=hs x List.mem_cons_self
   have:r.length≤(l'.erase x).length:=nodup_le h2 fun y hy=>(List.mem_erase_of_ne (fun (e:y=x)=>h1 (by rw [← e]; exact hy))).mpr (hs y (List.mem_cons_of_mem _ hy))
   rw [List.length_erase_of_mem hx] at this
   have hp:0 < l'.length:=List.length_pos_of_mem hx
   rw [List.length_cons]
   omega
def below (n:Nat):List Int:=(List.range n).map fun (k:Nat)=>(k:Int)
theorem mem_below {n:Nat} {v:Int}:v∈below n↔0≤v∧v < n:=by
 unfold below
 rw [List.mem_map]
 constructor
 · rintro ⟨k,hk,rfl⟩
   have:=List.mem_range.mp hk
   omega
 · rintro ⟨h0,h1⟩
   exact ⟨v.toNat,List.mem_range.mpr (by omega),by omega⟩
theorem below_length (n:Nat):(below n).length=n:=by simp [below]
theorem nodup_below (n:Nat):(below n).Nodup:=by
 unfold below
 refine List.Pairwise.map _ (fun a b h=>?_) (List.nodup_range (n:=n))
 intro e
 exact h (by omega)
theorem nodup_len {m:Int} {l:List Int} (hm:0≤m) (hn:l.Nodup) (h:∀ x∈l,0≤x∧x < m):(l.length:Int)≤m:=by
 have:=nodup_le (l':=below m.toNat) hn fun x hx=>mem_below.mpr ⟨(h x hx).1,by have:=(h x hx).2; omega⟩
 rw [below_length] at this
 omega
theorem full_len {m:Int} {l:List Int} (hm:0≤m) (h:∀ v,0≤v→v < m→v∈l):m≤(l.length:Int):=by
 have:=nodup_le (l:=below m.toNat) (l':=l) (nodup_below _) fun x hx=>by
   obtain ⟨h0,h1⟩:=mem_below.mp hx
   exact h x h0 (by omega)
 rw [below_length] at this
 omega
def ends1 (p:Int) (r:Road):List Int:=(if r.a=p then [r.b] else []) ++ (if r.b=p then [r.a] else [])
def ends (rs:List Road) (p:Int):List Int:=rs.flatMap (ends1 p)
theorem mem_ends {rs:List Road} {p e:Int}:e∈ends rs p↔∃ r∈rs,(r.a=p∧r.b=e)∨(r.b=p∧r.a=e):=by
 unfold ends ends1
 rw [List.mem_flatMap]
 constructor
 · rintro ⟨r,hr,h⟩
   refine ⟨r,hr,?_⟩
   rcases List.mem_append.mp h with h | h
   · by_cases c:r.a=p
     · rw [if_pos c] at h
       exact .inl ⟨c,(List.mem_singleton.mp h).symm⟩
     · rw [if_neg c] at h; cases h
   · by_cases c:r.b=p
     · rw [if_pos c] at h
       exact .inr ⟨c,(List.mem_singleton.mp h).symm⟩
     · rw [if_neg c] at h; cases h
 · rintro ⟨r,hr,h⟩
   refine ⟨r,hr,List.mem_append.mpr ?_⟩
   rcases h with ⟨h1,h2⟩ | ⟨h1,h2⟩
   · exact .inl (by rw [if_pos h1,h2]; exact List.mem_singleton.mpr rfl)
   · exact .inr (by rw [if_pos h1,h2]; exact List.mem_singleton.mpr rfl)
theorem ends_len (rs:List Road) (p:Int):(ends rs p).length≤2 * rs.length:=by
 unfold ends
 induction rs with
 | nil=>simp
 | cons r rs ih =>
   rw [List.flatMap_cons,List.length_append,List.length_cons]
   have:(ends1 p r).length≤2:=by
     unfold ends1
     rw [List.length_append]
     by_cases c:r.a=p <;> by_cases d:r.b=p <;> simp [c,d]
   omega
theorem ends_snoc (rs:List Road) (r:Road) (p:Int):ends (rs ++ [r]) p=ends rs p ++ ends1 p r:=by
 unfold ends
 rw [List.flatMap_append]
 simp
def jstep (c:List Int × List Int) (e:Int):List Int × List Int:=if e∈c.1 then c else (c.1 ++ [e],c.2 ++ [e])
structure JInv (m:Int) (rs:List Road) (ks ws:List Int):Prop where
 nd:ks.Nodup
 zero:0∈ks
 rng:∀ k∈ks,0≤k∧k < m
 sub:∀ w∈ws,w∈ks
 cl:∀ k∈ks,k ∉ ws→∀ e∈ends rs k,e∈ks
 wl:ws.length≤ks.length
theorem nodup_snoc {l:List Int} {e:Int} (h:l.Nodup) (he:e ∉ l):(l ++ [e]).Nodup:=by
 rw [List.nodup_append]
 refine ⟨h,by simp,fun a ha b hb=>?_⟩
 rw [List.mem_singleton.mp hb]
 exact fun z=>he (z ▸ ha)
structure JMid (m:Int) (rs:List Road) (p:Int) (es ks ws ks0:List Int) (n0:Nat):Prop where
 nd:ks.Nodup
 zero:0∈ks
 rng:∀ k∈ks,0≤k∧k < m
 sub:∀ w∈ws,w∈ks
 cl:∀ k∈ks,k ∉ ws→k=p∨∀ e∈ends rs k,e∈ks
 seen:∀ e∈es,e∈ks
 pin:p∈ks
 mu:ks.length + n0=ks0.length + ws.length
 up:ks0.length≤ks.length
 wl:ws.length≤ks.length
theorem JMid.start {m:Int} {rs:List Road} {ks ws:List Int} {p:Int} (h:JInv m rs ks (ws ++ [p])):JMid m rs p [] ks ws ks ws.length where
 nd:=h.nd
 zero:=h.zero
 rng:=h.rng
 sub:=fun w hw=>h.sub w (List.mem_append_left _ hw)
 cl:=fun k hk hw=>by
   by_cases e:k=p
   · exact .inl e
   · exact .inr (h.cl k hk fun z=>by
       rcases List.mem_append.mp z with z | z
       · exact hw z
       · exact e (List.mem_singleton.mp z))
 seen:=fun e he=>by cases he
 pin:=h.sub p (List.mem_append_right _ (List.mem_singleton.mpr rfl))
 mu:=rfl
 up:=Nat.le_refl _
 wl:=by have:=h.wl; rw [List.length_append] at this; simp at this; omega
theorem JMid.step {m:Int} {rs:List Road} {p:Int} {es ks ws ks0:List Int} {n0:Nat} {e:Int} (h:JMid m rs p es ks ws ks0 n0) (h0:0≤e) (h1:e < m) :
   JMid m rs p (es ++ [e]) (jstep (ks,ws) e).1 (jstep (ks,ws) e).2 ks0 n0:=by
 unfold jstep
 by_cases c:e∈ks
 · rw [if_pos c]
   refine ⟨h.nd,h.zero,h.rng,h.sub,h.cl,fun x hx=>?_,h.pin,h.mu,h.up,h.wl⟩
   rcases List.mem_append.mp hx with z | z
   · exact h.seen x z
   · rw [List.mem_singleton.mp z]; exact c
 · rw [if_neg c]
   dsimp only
   refine ⟨nodup_snoc h.nd c,List.mem_append_left _ h.zero,fun k hk=>?_,fun w hw=>?_,fun k hk hw=>?_,fun x hx=>?_,List.mem_append_left _ h.pin,?_,by have:=h.up; simp; omega,by have:=h.wl; simp; exact this⟩
   · rcases List.mem_append.mp hk with z | z
     · exact h.rng k z
     · rw [List.mem_singleton.mp z]; exact ⟨h0,h1⟩
   · rcases List.mem_append.mp hw with z | z
     · exact List.mem_append_left _ (h.sub w z)
     · exact List.mem_append_right _ z
   · rcases List.mem_append.mp hk with z | z
     · rcases h.cl k z fun y=>hw (List.mem_append_left _ y) with y | y
       · exact .inl y
       · exact .inr fun x hx=>List.mem_append_left _ (y x hx)
     · exact absurd (List.mem_append_right _ z) hw
   · rcases List.mem_append.mp hx with z | z
     · exact List.mem_append_left _ (h.seen x z)
     · exact List.mem_append_right _ z
   · have:=h.mu
     simp only [List.length_append,List.length_cons,List.length_nil]
     omega
theorem JMid.done {m:Int} {rs:List Road} {p:Int} {ks ws ks0:List Int} {n0:Nat} (h:JMid m rs p (ends rs p) ks ws ks0 n0):JInv m rs ks ws where
 nd:=h.nd
 zero:=h.zero
 rng:=h.rng
 sub:=h.sub
 cl:=fun k hk hw=>by
   rcases h.cl k hk hw with z | z
   · rw [z]; exact h.seen
   · exact z
 wl:=h.wl
theorem JInv.start {m:Int} {rs:List Road} (hm:1≤m):JInv m rs [0] [0] where
 nd:=by simp
 zero:=by simp
 rng:=fun k hk=>by rw [List.mem_singleton.mp hk]; omega
 sub:=fun w hw=>hw
 cl:=fun k hk hw=>absurd hk hw
 wl:=by simp
theorem JInv.all {m:Int} {rs:List Road} {ks:List Int} (h:JInv m rs ks []) (hm:1≤m) (j:Joined m rs):(ks.length:Int)=m:=by
 have up:=nodup_len (by omega) h.nd h.rng
 have:∀ v,0≤v→v < m→v∈ks:=j (fun v=>v∈ks) h.zero fun r hr=>by
   constructor
   · intro ha
     exact h.cl r.a ha (by simp) r.b (mem_ends.mpr ⟨r,hr,.inl ⟨rfl,rfl⟩⟩)
   · intro hb
     exact h.cl r.b hb (by simp) r.a (mem_ends.mpr ⟨r,hr,.inr ⟨rfl,rfl⟩⟩)
 have:=full_len (by omega) this
 omega
theorem ends_rng {m:Int} {rs:List Road} (h:∀ r∈rs,RoadOk m r) {p e:Int} (he:e∈ends rs p):0≤e∧e < m:=by
 obtain ⟨r,hr,z⟩:=mem_ends.mp he
 have k:=h r hr
 rcases z with ⟨_,rfl⟩ | ⟨_,rfl⟩
 · exact ⟨k.b0,k.b1⟩
 · exact ⟨k.a0,k.a1⟩
structure Row where
 k:Int
 un:Int
 t:Int
 u:Int
 sw:Int
 sp:Int
structure RowOk (r:Row):Prop where
 u0:0≤r.un
 u1:r.un < r.k
 t0:2≤r.t
 t1:r.t≤1000000
 v0:2≤r.u
 v1:r.u≤1000000
 s0:0≤r.sp
 s1:r.sp < r.k
structure Rows (n:Nat) (rows:List Row):Prop where
 len:rows.length=n
 ok:∀ (i:Nat) (r:Row),rows[i]?=some r→r.k=(i:Int) + 1∧RowOk r
structure Labels (n:Nat) (ls:List Int):Prop where
 len:ls.length=n
 nd:ls.Nodup
 all:∀ v:Int,0≤v→v < n→v∈ls
 rng:∀ v∈ls,0≤v∧v < n
theorem mem_insert {α:Type} {l:List α} {k:Nat} {x y:α}:y∈l.take k ++ x :: l.drop k↔y=x∨y∈l:=by
 rw [List.mem_append,List.mem_cons]
 constructor
 · rintro (h | h | h)
   · exact .inr (List.mem_of_mem_take h)
   · exact .inl h
   · exact .inr (List.mem_of_mem_drop h)
 · rintro (h | h)
   · exact .inr (.inl h)
   · rw [← List.take_append_drop k l] at h
     rcases List.mem_append.mp h with z | z
     · exact .inl z
     · exact .inr (.inr z)
def roadOf (ls:List Int) (r:Row):Road:=if r.sw=1 then ⟨ls.getD r.un.toNat 0,ls.getD r.k.toNat 0,r.t,r.u⟩ else ⟨ls.getD r.k.toNat 0,ls.getD r.un.toNat 0,r.t,r.u⟩
structure Put (ls:List Int) (rows:List Row) (rs:List Road):Prop where
 len:rs.length=rows.length
 of:∀ r∈rs,∃ w∈rows,r=roadOf ls w
 to:∀ w∈rows,roadOf ls w∈rs
theorem Put.nil (ls:List Int):Put ls [] []:=⟨rfl,fun r h=>(by cases h),fun r h=>(by cases h)⟩
theorem Put.step {ls:List Int} {rows:List Row} {rs:List Road} (h:Put ls rows rs) (w:Row) (k:Nat):Put ls (rows ++ [w]) (rs.take k ++ roadOf ls w :: rs.drop k) where
 len:=by
   rw [List.length_append,List.length_cons,List.length_take,List.length_drop,List.length_append,h.len]
   simp
   omega
 of:=fun r hr=>by
   rcases mem_insert.mp hr with z | z
   · exact ⟨w,by simp,z⟩
   · obtain ⟨w',hw,e⟩:=h.of r z
     exact ⟨w',List.mem_append_left _ hw,e⟩
 to:=fun w' hw=>by
   rw [mem_insert]
   rcases List.mem_append.mp hw with z | z
   · exact .inr (h.to w' z)
   · exact .inl (by rw [List.mem_singleton.mp z])
theorem getD_of {ls:List Int} {n:Nat} (h:Labels n ls) {i:Nat} (hi:i < n):ls[i]?=some (ls.getD i 0):=by
 have:i < ls.length:=by rw [h.len]; exact hi
 simp [List.getD,List.getElem?_eq_getElem this]
theorem getD_mem {ls:List Int} {n:Nat} (h:Labels n ls) {i:Nat} (hi:i < n):ls.getD i 0∈ls:=List.mem_of_getElem? (getD_of h hi)
theorem getD_inj {ls:List Int} {n:Nat} (h:Labels n ls) {i j:Nat} (hi:i < n) (hj:j < n) (e:ls.getD i 0=ls.getD j 0):i=j:=by
 have h1:i < ls.length:=by rw [h.len]; exact hi
 have h2:j < ls.length:=by rw [h.len]; exact hj
 have e1:=getD_of h hi
 have e2:=getD_of h hj
 rw [e] at e1
 have e3:ls[i]'h1=ls[j]'h2:=by
   rw [List.getElem?_eq_getElem h1] at e1
   rw [List.getElem?_eq_getElem h2] at e2
   exact Option.some.inj (e1.trans e2.symm)
 have nd:=List.pairwise_iff_getElem.mp h.nd
 rcases Nat.lt_trichotomy i j with z | z | z
 · exact absurd e3 (nd i j h1 h2 z)
 · exact z
 · exact absurd e3.symm (nd j i h2 h1 z)
theorem good_of {n:Nat} {ls:List Int} {rows:List Row} {rs:List Road} (h1:1≤n) (h24:n≤24) (L:Labels n ls) (W:Rows (n - 1) rows) (P:Put ls rows rs):Good n rs where
 m1:=by omega
 m24:=by omega
 len:=by rw [P.len,W.len]; omega
 ok:=fun r hr=>by
   obtain ⟨w,hw,rfl⟩:=P.of r hr
   obtain ⟨i,hi⟩:=List.getElem?_of_mem hw
   obtain ⟨ek,ok⟩:=W.ok i w hi
   have hil:i < rows.length:=(List.getElem?_eq_some_iff.mp hi).1
   rw [W.len] at hil
   have hk:w.k.toNat < n:=by omega
   have hu:w.un.toNat < n:=by have:=ok.u0; have:=ok.u1; omega
   have r1:=L.rng _ (getD_mem L hk)
   have r2:=L.rng _ (getD_mem L hu)
   have ne:ls.getD w.k.toNat 0≠ls.getD w.un.toNat 0:=fun e=>by
     have:=getD_inj L hk hu e
     have:=ok.u0; have:=ok.u1
     omega
   unfold roadOf
   by_cases c:w.sw=1
   · rw [if_pos c]
     exact ⟨r2.1,r2.2,r1.1,r1.2,ne.symm,ok.t0,ok.t1,ok.v0,ok.v1⟩
   · rw [if_neg c]
     exact ⟨r1.1,r1.2,r2.1,r2.2,ne,ok.t0,ok.t1,ok.v0,ok.v1⟩
 jn:=by
   intro S s0 hS
   have key:∀ i:Nat,i < n→(S (ls.getD i 0)↔S (ls.getD 0 0)):=by
     intro i
     induction i using Nat.strongRecOn with
     | ind i ih =>
       intro hi
       by_cases z:i=0
       · rw [z]
       · have hil:i - 1 < rows.length:=by rw [W.len]; omega
         obtain ⟨ek,ok⟩:=W.ok (i - 1) rows[i - 1] (List.getElem?_eq_getElem hil)
         have hm:=P.to rows[i - 1] (List.getElem_mem hil)
         have hr:=hS _ hm
         have hk:(rows[i - 1]).k.toNat=i:=by omega
         have hu:(rows[i - 1]).un.toNat < i:=by have:=ok.u0; have:=ok.u1; omega
         have hh:=ih _ hu (by omega)
         unfold roadOf at hr
         rw [hk] at hr
         by_cases c:(rows[i - 1]).sw=1
         · rw [if_pos c] at hr
           exact hr.symm.trans hh
         · rw [if_neg c] at hr
           exact hr.trans hh
   have at_:∀ v,0≤v→v < (n:Int)→∃ i,i < n∧ls.getD i 0=v:=fun v h0 h1=>by
     obtain ⟨i,hi⟩:=List.getElem?_of_mem (L.all v h0 h1)
     have hil:i < n:=by have:=(List.getElem?_eq_some_iff.mp hi).1; rw [L.len] at this; exact this
     refine ⟨i,hil,?_⟩
     have:=getD_of L hil
     rw [hi] at this
     exact (Option.some.inj this).symm
   intro v h0 hv
   obtain ⟨i,hi,rfl⟩:=at_ v h0 hv
   obtain ⟨j,hj,ej⟩:=at_ 0 (by omega) (by omega)
   refine (key i hi).mpr ((key j hj).mp ?_)
   rw [ej]
   exact s0
end Pb
set_option linter.all false
namespace Pb
def Adj (rs:List Road) (a b:Int):Prop:=∃ x∈rs,(x.a=a∧x.b=b)∨(x.b=a∧x.a=b)
theorem Adj.symm {rs:List Road} {a b:Int} (h:Adj rs a b):Adj rs b a:=by
 obtain ⟨x,hx,h⟩:=h
 rcases h with ⟨h1,h2⟩ | ⟨h1,h2⟩
 · exact ⟨x,hx,.inr ⟨h2,h1⟩⟩
 · exact ⟨x,hx,.inl ⟨h2,h1⟩⟩
theorem adj_ends {rs:List Road} {a b:Int}:b∈ends rs a↔Adj rs a b:=mem_ends
theorem Good.adj {m:Int} {rs:List Road} (g:Good m rs) {a b:Int} (h:Adj rs a b):(0≤a∧a < m)∧(0≤b∧b < m)∧a≠b:=by
 obtain ⟨x,hx,h⟩:=h
 have k:=g.ok x hx
 rcases h with ⟨h1,h2⟩ | ⟨h1,h2⟩
 · subst h1 h2; exact ⟨⟨k.a0,k.a1⟩,⟨k.b0,k.b1⟩,k.ne⟩
 · subst h1 h2; exact ⟨⟨k.b0,k.b1⟩,⟨k.a0,k.a1⟩,k.ne.symm⟩
theorem Good.from {m:Int} {rs:List Road} (g:Good m rs) {r:Int} (h0:0≤r) (h1:r < m) (S:Int→Prop) (sr:S r) (hS:∀ x∈rs,(S x.a↔S x.b)):∀ v,0≤v→v < m→S v:=by
 have key:∀ v,0≤v→v < m→(S v↔S 0):=g.jn (fun v=>S v↔S 0) Iff.rfl fun x hx=>by
   have:=hS x hx
   exact ⟨fun h=>this.symm.trans h,fun h=>this.trans h⟩
 intro v a b
 exact (key v a b).mpr ((key r h0 h1).mp sr)
inductive Dist (rs:List Road) (r:Int):Nat→Int→Prop
 | zero:Dist rs r 0 r
 | step {n:Nat} {u v:Int}:Dist rs r n u→Adj rs u v→Dist rs r (n + 1) v
theorem least {P:Nat→Prop}:∀ n,P n→∃ k,P k∧∀ j,j < k→¬ P j:=by
 intro n
 induction n using Nat.strongRecOn with
 | ind n ih =>
   intro h
   by_cases z:∃ j,j < n∧P j
   · obtain ⟨j,hj,hp⟩:=z
     exact ih j hj hp
   · exact ⟨n,h,fun j hj hp=>z ⟨j,hj,hp⟩⟩
structure Rooted (m:Int) (rs:List Road) (r:Int) (par:Int→Int) (dep:Int→Nat):Prop where
 root:dep r=0
 up:∀ v,0≤v→v < m→v≠r→(0≤par v∧par v < m)∧Adj rs v (par v)∧dep (par v) + 1=dep v
 road:∀ x∈rs,(x.a≠r∧par x.a=x.b)∨(x.b≠r∧par x.b=x.a)
 one:(rs.map fun x=>if x.a≠r∧par x.a=x.b then x.a else x.b).Nodup
theorem full_of {n:Nat} {l:List Nat} (hn:l.Nodup) (hl:l.length=n) (hb:∀ x∈l,x < n):∀ i,i < n→i∈l:=by
 intro i hi
 by_cases z:i∈l
 · exact z
 · have:=nodup_le (l:=i :: l) (l':=List.range n) (List.nodup_cons.mpr ⟨z,hn⟩) fun x hx=>by
     rcases List.mem_cons.mp hx with rfl | hx
     · exact List.mem_range.mpr hi
     · exact List.mem_range.mpr (hb x hx)
   rw [List.length_cons,List.length_range] at this
   omega
theorem rooted {m:Int} {rs:List Road} (g:Good m rs) {r:Int} (h0:0≤r) (h1:r < m):∃ par dep,Rooted m rs r par dep:=by
 classical
 have reach:∀ v,0≤v→v < m→∃ n,Dist rs r n v:=g.from h0 h1 (fun v=>∃ n,Dist rs r n v) ⟨0,.zero⟩ fun x hx=>by
   constructor
   · rintro ⟨n,d⟩; exact ⟨n + 1,d.step ⟨x,hx,.inl ⟨rfl,rfl⟩⟩⟩
   · rintro ⟨n,d⟩; exact ⟨n + 1,d.step ⟨x,hx,.inr ⟨rfl,rfl⟩⟩⟩
 have hd:∀ v,∃ k,(0≤v∧v < m)→Dist rs r k v∧∀ j,j < k→¬ Dist rs r j v:=fun v=>by
   by_cases z:0≤v∧v < m
   · obtain ⟨n,d⟩:=reach v z.1 z.2
     obtain ⟨k,h⟩:=least (P:=fun k=>Dist rs r k v) n d
     exact ⟨k,fun _=>h⟩
   · exact ⟨0,fun h=>absurd h z⟩
 let dep:Int→Nat:=fun v=>(hd v).choose
 have dspec:∀ v,0≤v→v < m→Dist rs r (dep v) v∧∀ j,j < dep v→¬ Dist rs r j v:=fun v a b=>(hd v).choose_spec ⟨a,b⟩
 have dr:dep r=0:=by
   have:=(dspec r h0 h1).2 0
   by_cases z:dep r=0
   · exact z
   · exact absurd Dist.zero (this (by omega))
 have hp:∀ v,∃ u,(0≤v∧v < m∧v≠r)→Adj rs v u∧dep u + 1=dep v:=fun v=>by
   by_cases z:0≤v∧v < m∧v≠r
   · obtain ⟨a,b,c⟩:=z
     obtain ⟨d,dm⟩:=dspec v a b
     generalize hk:dep v=k at d dm
     cases d with
     | zero=>exact absurd rfl c
     | @step n u _ d e =>
       refine ⟨u,fun _=>⟨e.symm,?_⟩⟩
       obtain ⟨⟨u0,u1⟩,_⟩:=g.adj e
       have l1:dep u≤n:=by
         by_cases w:dep u≤n
         · exact w
         · exact absurd d ((dspec u u0 u1).2 n (by omega))
       have l2:¬ dep u < n:=fun w=>dm (dep u + 1) (by omega) ((dspec u u0 u1).1.step e)
       omega
   · exact ⟨0,fun h=>absurd h z⟩
 let par:Int→Int:=fun v=>(hp v).choose
 have pspec:∀ v,0≤v→v < m→v≠r→Adj rs v (par v)∧dep (par v) + 1=dep v:=fun v a b c=>(hp v).choose_spec ⟨a,b,c⟩
 have hi:∀ v,∃ i:Nat,(0≤v∧v < m∧v≠r)→∃ x,rs[i]?=some x∧((x.a=v∧x.b=par v)∨(x.b=v∧x.a=par v)):=fun v=>by
   by_cases z:0≤v∧v < m∧v≠r
   · obtain ⟨x,hx,h⟩:=(pspec v z.1 z.2.1 z.2.2).1
     obtain ⟨i,e⟩:=List.getElem?_of_mem hx
     exact ⟨i,fun _=>⟨x,e,h⟩⟩
   · exact ⟨0,fun h=>absurd h z⟩
 let ix:Int→Nat:=fun v=>(hi v).choose
 have ispec:∀ v,0≤v→v < m→v≠r→∃ x,rs[ix v]?=some x∧((x.a=v∧x.b=par v)∨(x.b=v∧x.a=par v)):=fun v a b c=>(hi v).choose_spec ⟨a,b,c⟩
 have inj:∀ v u,0≤v→v < m→v≠r→0≤u→u < m→u≠r→ix v=ix u→v=u:=by
   intro v u a b c a' b' c' e
   obtain ⟨x,hx,h⟩:=ispec v a b c
   obtain ⟨y,hy,h'⟩:=ispec u a' b' c'
   rw [e,hy] at hx
   cases hx
   have d1:=(pspec v a b c).2
   have d2:=(pspec u a' b' c').2
   rcases h with ⟨p,q⟩ | ⟨p,q⟩ <;> rcases h' with ⟨p',q'⟩ | ⟨p',q'⟩
   · exact p.symm.trans p'
   · exfalso
     have e1:v=par u:=p.symm.trans q'
     have e2:u=par v:=p'.symm.trans q
     rw [← e1] at d2
     rw [← e2] at d1
     omega
   · exfalso
     have e1:v=par u:=p.symm.trans q'
     have e2:u=par v:=p'.symm.trans q
     rw [← e1] at d2
     rw [← e2] at d1
     omega
   · exact p.symm.trans p'
 let vs:List Int:=(below m.toNat).filter fun v=>decide (v≠r)
 have mv:∀ v,v∈vs↔(0≤v∧v < m∧v≠r):=fun v=>by
   rw [List.mem_filter,mem_below,decide_eq_true_eq]
   constructor
   · rintro ⟨⟨a,b⟩,c⟩; exact ⟨a,by omega,c⟩
   · rintro ⟨a,b,c⟩; exact ⟨⟨a,by omega⟩,c⟩
 have nv:vs.Nodup:=(nodup_below _).filter _
 have lv:vs.length=rs.length:=by
   have e1:(r :: vs).length≤(below m.toNat).length:=nodup_le (List.nodup_cons.mpr ⟨fun h=>((mv r).mp h).2.2 rfl,nv⟩) fun x hx=>by
     rcases List.mem_cons.mp hx with rfl | hx
     · exact mem_below.mpr ⟨h0,by omega⟩
     · have:=(mv x).mp hx
       exact mem_below.mpr ⟨this.1,by omega⟩
   have e2:(below m.toNat).length≤(r :: vs).length:=nodup_le (nodup_below _) fun x hx=>by
     have:=mem_below.mp hx
     by_cases z:x=r
     · rw [z]; exact List.mem_cons_self
     · exact List.mem_cons_of_mem _ ((mv x).mpr ⟨this.1,by omega,z⟩)
   rw [below_length,List.length_cons] at e1 e2
   have:=g.len
   have:=g.m1
   omega
 have il:(vs.map ix).Nodup:=by
   have:∀ (l:List Int),l.Nodup→(∀ v∈l,0≤v∧v < m∧v≠r)→(l.map ix).Nodup:=by
     intro l
     induction l with
     | nil=>intro _ _; simp
     | cons v l ih =>
       intro hn hm
       obtain ⟨n1,n2⟩:=List.nodup_cons.mp hn
       rw [List.map_cons]
       refine List.nodup_cons.mpr ⟨fun z=>?_,ih n2 fun u hu=>hm u (List.mem_cons_of_mem _ hu)⟩
       obtain ⟨u,hu,e⟩:=List.mem_map.mp z
       obtain ⟨a,b,c⟩:=hm v List.mem_cons_self
       obtain ⟨a',b',c'⟩:=hm u (List.mem_cons_of_mem _ hu)
       exact n1 (inj u v a' b' c' a b c e ▸ hu)
   exact this vs nv fun v hv=>(mv v).mp hv
 have ib:∀ i∈vs.map ix,i < rs.length:=fun i hi'=>by
   obtain ⟨v,hv,rfl⟩:=List.mem_map.mp hi'
   obtain ⟨a,b,c⟩:=(mv v).mp hv
   obtain ⟨x,hx,_⟩:=ispec v a b c
   exact (List.getElem?_eq_some_iff.mp hx).1
 have all:=full_of il (by rw [List.length_map,lv]) ib
 have back:∀ i x,rs[i]?=some x→∃ v,(0≤v∧v < m∧v≠r)∧ix v=i∧((x.a=v∧x.b=par v)∨(x.b=v∧x.a=par v)):=fun i x e=>by
   obtain ⟨v,hv,rfl⟩:=List.mem_map.mp (all i (List.getElem?_eq_some_iff.mp e).1)
   obtain ⟨a,b,c⟩:=(mv v).mp hv
   obtain ⟨y,hy,h⟩:=ispec v a b c
   rw [e] at hy
   cases hy
   exact ⟨v,⟨a,b,c⟩,rfl,h⟩
 have noback:∀ v,0≤v→v < m→v≠r→par v≠r→par (par v)≠v:=fun v a b c c' z=>by
   have d1:=pspec v a b c
   obtain ⟨_,⟨a',b'⟩,_⟩:=g.adj d1.1
   have d2:=pspec (par v) a' b' c'
   rw [z] at d2
   omega
 have kid:∀ i x,rs[i]?=some x→∃ v,(0≤v∧v < m∧v≠r)∧ix v=i∧(if x.a≠r∧par x.a=x.b then x.a else x.b)=v:=fun i x e=>by
   obtain ⟨v,⟨a,b,c⟩,hv,h⟩:=back i x e
   refine ⟨v,⟨a,b,c⟩,hv,?_⟩
   rcases h with ⟨p,q⟩ | ⟨p,q⟩
   · rw [if_pos ⟨by rw [p]; exact c,by rw [p]; exact q.symm⟩]
     exact p
   · rw [if_neg]
     · exact p
     · rintro ⟨z1,z2⟩
       rw [q] at z1 z2
       exact noback v a b c z1 (z2.trans p)
 refine ⟨par,dep,dr,fun v a b c=>?_,fun x hx=>?_,?_⟩
 · obtain ⟨p,q⟩:=pspec v a b c
   obtain ⟨_,w,_⟩:=g.adj p
   exact ⟨w,p,q⟩
 · obtain ⟨i,e⟩:=List.getElem?_of_mem hx
   obtain ⟨v,⟨a,b,c⟩,_,h⟩:=back i x e
   rcases h with ⟨p,q⟩ | ⟨p,q⟩
   · exact .inl ⟨by rw [p]; exact c,by rw [p]; exact q.symm⟩
   · exact .inr ⟨by rw [p]; exact c,by rw [p]; exact q.symm⟩
 · refine List.pairwise_iff_getElem.mpr fun i j hi' hj' lt=>?_
   rw [List.length_map] at hi' hj'
   rw [List.getElem_map,List.getElem_map]
   intro z
   obtain ⟨v,_,e1,k1⟩:=kid i rs[i] (List.getElem?_eq_getElem hi')
   obtain ⟨u,_,e2,k2⟩:=kid j rs[j] (List.getElem?_eq_getElem hj')
   rw [k1,k2] at z
   rw [z] at e1
   omega
theorem ends_nodup {m:Int} {rs:List Road} (g:Good m rs) {p:Int} (h0:0≤p) (h1:p < m):(ends rs p).Nodup:=by
 obtain ⟨par,dep,R⟩:=rooted g h0 h1
 have one:=R.one
 have ok:=g.ok
 have road:=R.road
 clear R g
 induction rs with
 | nil=>simp [ends]
 | cons x l ih =>
   have ox:=ok x List.mem_cons_self
   have ol:∀ y∈l,RoadOk m y:=fun y hy=>ok y (List.mem_cons_of_mem _ hy)
   rw [List.map_cons] at one
   obtain ⟨n1,n2⟩:=List.nodup_cons.mp one
   have il:=ih n2 ol fun y hy=>road y (List.mem_cons_of_mem _ hy)
   have e:ends (x :: l) p=ends1 p x ++ ends l p:=by unfold ends; rw [List.flatMap_cons]
   rw [e]
   have kid:∀ y,RoadOk m y→((y.a≠p∧par y.a=y.b)∨(y.b≠p∧par y.b=y.a))→(y.a=p→(if y.a≠p∧par y.a=y.b then y.a else y.b)=y.b)∧(y.b=p→(if y.a≠p∧par y.a=y.b then y.a else y.b)=y.a):=fun y oy hy=>by
     constructor
     · intro z
       rw [if_neg (fun w=>w.1 z)]
     · intro z
       rcases hy with hy | hy
       · rw [if_pos hy]
       · exact absurd z hy.1
   have kx:=kid x ox (road x List.mem_cons_self)
   have inl:∀ e∈ends l p,e∈l.map fun y=>if y.a≠p∧par y.a=y.b then y.a else y.b:=fun e he=>by
     obtain ⟨y,hy,h⟩:=mem_ends.mp he
     have ky:=kid y (ol y hy) (road y (List.mem_cons_of_mem _ hy))
     refine List.mem_map.mpr ⟨y,hy,?_⟩
     rcases h with ⟨p1,q1⟩ | ⟨p1,q1⟩
     · rw [ky.1 p1]; exact q1
     · rw [ky.2 p1]; exact q1
   unfold ends1
   by_cases c:x.a=p
   · have d:¬ x.b=p:=fun z=>ox.ne (c.trans z.symm)
     rw [if_pos c,if_neg d,List.append_nil]
     refine List.nodup_cons.mpr ⟨fun z=>n1 ?_,il⟩
     rw [kx.1 c]
     exact inl _ z
   · rw [if_neg c,List.nil_append]
     by_cases d:x.b=p
     · rw [if_pos d]
       refine List.nodup_cons.mpr ⟨fun z=>n1 ?_,il⟩
       rw [kx.2 d]
       exact inl _ z
     · rw [if_neg d]
       exact il
def nbrs (m:Int) (rs:List Road) (p:Int):List Int:=(below m.toNat).filter fun q=>decide (q∈ends rs p)
theorem sorted_eq:∀ {l l':List Int},l.Perm l'→l.Pairwise (·≤·)→l'.Pairwise (·≤·)→l=l'
 | [],l',p,_,_=>(List.Perm.nil_eq p)
 | a :: l,l',p,h,h'=>by
   cases l' with
   | nil=>exact absurd p.symm.nil_eq (by simp)
   | cons b r =>
     obtain ⟨h1,h2⟩:=List.pairwise_cons.mp h
     obtain ⟨h1',h2'⟩:=List.pairwise_cons.mp h'
     have e:a=b:=by
       have ma:a∈b :: r:=p.subset List.mem_cons_self
       have mb:b∈a :: l:=p.symm.subset List.mem_cons_self
       rcases List.mem_cons.mp ma with z | z
       · exact z
       · rcases List.mem_cons.mp mb with w | w
         · exact w.symm
         · have:=h1 b w
           have:=h1' a z
           omega
     subst e
     rw [sorted_eq (List.Perm.cons_inv p) h2 h2']
theorem below_sorted (n:Nat):(below n).Pairwise (·≤·):=by
 unfold below
 refine List.Pairwise.map _ (fun a b (h:a < b)=>?_) List.pairwise_lt_range
 omega
theorem nbrs_sorted (m:Int) (rs:List Road) (p:Int):(nbrs m rs p).Pairwise (·≤·):=(below_sorted _).filter _
theorem nbrs_nodup (m:Int) (rs:List Road) (p:Int):(nbrs m rs p).Nodup:=(nodup_below _).filter _
theorem mem_nbrs {m:Int} {rs:List Road} (g:Good m rs) {p q:Int}:q∈nbrs m rs p↔Adj rs p q:=by
 unfold nbrs
 rw [List.mem_filter,decide_eq_true_eq,adj_ends,mem_below]
 constructor
 · exact fun h=>h.2
 · intro h
   obtain ⟨_,⟨a,b⟩,_⟩:=g.adj h
   exact ⟨⟨a,by omega⟩,h⟩
theorem perm_of_nodup:∀ {l l':List Int},l.Nodup→l'.Nodup→(∀ x,x∈l↔x∈l')→l.Perm l'
 | [],l',_,_,h=>by
   cases l' with
   | nil=>exact .nil
   | cons b r=>exact absurd ((h b).mpr List.mem_cons_self) (by simp)
 | a :: l,l',n,n',h=>by
   obtain ⟨n1,n2⟩:=List.nodup_cons.mp n
   have ma:a∈l':=(h a).mp List.mem_cons_self
   refine List.Perm.trans (List.Perm.cons a ?_) (List.perm_cons_erase ma).symm
   refine perm_of_nodup n2 (n'.erase a) fun x=>?_
   constructor
   · intro hx
     have ne:x≠a:=fun z=>n1 (z ▸ hx)
     exact (List.mem_erase_of_ne ne).mpr ((h x).mp (List.mem_cons_of_mem _ hx))
   · intro hx
     have:x≠a:=fun z=>by
       subst z
       exact (List.Nodup.not_mem_erase n') hx
     rcases List.mem_cons.mp ((h x).mpr (List.mem_of_mem_erase hx)) with z | z
     · exact absurd z this
     · exact z
theorem nbrs_eq {m:Int} {rs:List Road} (g:Good m rs) {p:Int} (h0:0≤p) (h1:p < m) {zs:List Int} (hp:zs.Perm (ends rs p)) (hs:zs.Pairwise (·≤·)):zs=nbrs m rs p:=by
 refine sorted_eq (hp.trans (perm_of_nodup (ends_nodup g h0 h1) (nbrs_nodup m rs p) fun x=>?_)) hs (nbrs_sorted m rs p)
 rw [mem_nbrs g,adj_ends]
def toll1 (a b:Int) (x:Road):Option Int:=if x.a=a∧x.b=b then some x.t else if x.a=b∧x.b=a then some x.u else none
def tollOf (rs:List Road) (a b:Int):Option Int:=rs.findSome? (toll1 a b)
theorem toll_adj {rs:List Road} {a b:Int}:(tollOf rs a b).isSome=true↔Adj rs a b:=by
 unfold tollOf
 rw [List.findSome?_isSome_iff]
 constructor
 · rintro ⟨x,hx,h⟩
   unfold toll1 at h
   by_cases c:x.a=a∧x.b=b
   · exact ⟨x,hx,.inl c⟩
   · rw [if_neg c] at h
     by_cases d:x.a=b∧x.b=a
     · exact ⟨x,hx,.inr ⟨d.2,d.1⟩⟩
     · rw [if_neg d] at h; cases h
 · rintro ⟨x,hx,h⟩
   refine ⟨x,hx,?_⟩
   unfold toll1
   rcases h with h | h
   · rw [if_pos h]; rfl
   · by_cases c:x.a=a∧x.b=b
     · rw [if_pos c]; rfl
     · rw [if_neg c,if_pos ⟨h.2,h.1⟩]; rfl
def Joins (x:Road) (a b:Int):Prop:=(x.a=a∧x.b=b)∨(x.b=a∧x.a=b)
theorem pair_once {m:Int} {rs:List Road} (g:Good m rs) {a b:Int} {i j:Nat} {x y:Road} (hi:rs[i]?=some x) (hj:rs[j]?=some y) (jx:Joins x a b) (jy:Joins y a b):i=j:=by
 obtain ⟨⟨a0,a1⟩,_,_⟩:=g.adj (show Adj rs a b from ⟨x,List.mem_of_getElem? hi,jx⟩)
 obtain ⟨par,dep,R⟩:=rooted g a0 a1
 have kid:∀ z∈rs,Joins z a b→(if z.a≠a∧par z.a=z.b then z.a else z.b)=b:=fun z hz jz=>by
   rcases jz with ⟨p,q⟩ | ⟨p,q⟩
   · rw [if_neg (fun w=>w.1 p)]
     exact q
   · rcases R.road z hz with w | w
     · rw [if_pos w]
       exact q
     · exact absurd p w.1
 have li:=(List.getElem?_eq_some_iff.mp hi)
 have lj:=(List.getElem?_eq_some_iff.mp hj)
 obtain ⟨li,ei⟩:=li
 obtain ⟨lj,ej⟩:=lj
 have nd:=List.pairwise_iff_getElem.mp R.one
 have vi:(rs.map fun z=>if z.a≠a∧par z.a=z.b then z.a else z.b)[i]'(by rw [List.length_map]; exact li)=b:=by
   rw [List.getElem_map]
   exact kid _ (List.getElem_mem li) (ei ▸ jx)
 have vj:(rs.map fun z=>if z.a≠a∧par z.a=z.b then z.a else z.b)[j]'(by rw [List.length_map]; exact lj)=b:=by
   rw [List.getElem_map]
   exact kid _ (List.getElem_mem lj) (ej ▸ jy)
 rcases Nat.lt_trichotomy i j with z | z | z
 · exact absurd (vi.trans vj.symm) (nd i j _ _ z)
 · exact z
 · exact absurd (vj.trans vi.symm) (nd j i _ _ z)
theorem toll1_none {a b:Int} {x:Road} (h:¬ Joins x a b):toll1 a b x=none:=by
 unfold toll1
 rw [if_neg (fun z=>h (.inl z)),if_neg (fun z=>h (.inr ⟨z.2,z.1⟩))]
theorem tollOf_at {m:Int} {rs:List Road} (g:Good m rs) {a b:Int} {i:Nat} {x:Road} (hi:rs[i]?=some x) (j:Joins x a b):tollOf rs a b=toll1 a b x:=by
 have lt:=(List.getElem?_eq_some_iff.mp hi)
 obtain ⟨lt,ex⟩:=lt
 have e:rs=rs.take i ++ x :: rs.drop (i + 1):=by rw [← ex,List.getElem_cons_drop,List.take_append_drop]
 have pre:tollOf (rs.take i) a b=none:=by
   unfold tollOf
   rw [List.findSome?_eq_none_iff]
   intro y hy
   refine toll1_none fun jy=>?_
   obtain ⟨k,hk⟩:=List.getElem?_of_mem hy
   have lk:=(List.getElem?_eq_some_iff.mp hk).1
   rw [List.length_take] at lk
   rw [List.getElem?_take_of_lt (by omega)] at hk
   have:=pair_once g hk hi jy j
   omega
 have hx:(toll1 a b x).isSome=true:=by
   unfold toll1
   rcases j with z | z
   · rw [if_pos z]; rfl
   · by_cases c:x.a=a∧x.b=b
     · rw [if_pos c]; rfl
     · rw [if_neg c,if_pos ⟨z.2,z.1⟩]; rfl
 obtain ⟨v,hv⟩:=Option.isSome_iff_exists.mp hx
 have:tollOf (rs.take i ++ x :: rs.drop (i + 1)) a b=toll1 a b x:=by
   unfold tollOf at pre ⊢
   rw [List.findSome?_append,pre,List.findSome?_cons,hv]
   rfl
 rw [← e] at this
 exact this
theorem tollOf_no {rs:List Road} {a b:Int} (h:¬ Adj rs a b):tollOf rs a b=none:=by
 cases q:tollOf rs a b with
 | none=>rfl
 | some v=>exact absurd (toll_adj.mp (by rw [q]; rfl)) h
theorem toll_fwd {x:Road} (h:x.a≠x.b):toll1 x.a x.b x=some x.t:=by unfold toll1; rw [if_pos ⟨rfl,rfl⟩]
theorem toll_bwd {x:Road} (h:x.a≠x.b):toll1 x.b x.a x=some x.u:=by unfold toll1; rw [if_neg (fun z=>h z.1),if_pos ⟨rfl,rfl⟩]
theorem nbrs_toll {m:Int} {rs:List Road} (p:Int):nbrs m rs p=(below m.toNat).filter fun q=>(tollOf rs p q).isSome:=by
 unfold nbrs
 congr 1
 funext q
 rw [Bool.eq_iff_iff,decide_eq_true_eq,toll_adj,adj_ends]
section
variable {m:Int} {row:List Int} {rs rs':List Road}
end
end Pb
set_option Elab.async false
set_option linter.all false
set_option maxRecDepth 100000
namespace L2
open PySem PySem.Spec PyProof.Rows
def Quiet (CX:CXT):Prop:=∀ outer H s e s',¬ CX outer H s E0 e s'
theorem passQ {CX:CXT} (q:Quiet CX) {X:Cx}:Passes CX X E0:=fun _ _ _ _ _ _ _ h=>(q _ _ _ _ _ h).elim
structure Df (K:PySem.W.Frag) (mg:Str→Option Value) (x:Str) (st:Stmt) (ps:List Str) (f:Addr) (fd:FuncData):Prop where
 F:Fun K x x st f fd
 m:mg x=some (.ref f)
 b:Binds K fd ps []
section
variable {P:Program} {w:World} {K:PySem.W.Frag} {mg:Str→Option Value} {base:Heap} {CX:CXT}
theorem Fun.okC {x qual:Str} {st:Stmt} {f:Addr} {fd:FuncData} {N ps:List Str} {k:Nat} {sp:Sp} (F:Fun K x qual st f fd) (S:FnScope N ps (defScope st)) (len:∀ vs H Q E,sp vs H Q E→vs.length=ps.length)
   (hbody:∀ (cdv:Value) (A:Around) (outer:List Env) (s:Shared) (H:Hp) (vs:List V) (Q:VK) (E:XK),Room k (A.deeper (envOfC qual (defScope st) s.heap.objs.size f cdv))→sp vs H Q E →
     ∃ t,PSs (cxOf CX P w K mg base N qual (defScope st) f cdv A outer s H E).nox (defBody st) t∧t { nx:=fun _ H'=>Q .non H',rt:=Q } (start N vs) H):FnOk P w K mg base CX (k + 1) f fd ps sp:=by
 obtain ⟨oc,od,kV,doc,pm,an,cdv,ct,osl,rfl,lk,hcd⟩:=F.ex
 refine fn_of lk hcd S len fun A outer s H vs Q E hr hsp=>?_
 obtain ⟨t,h,q⟩:=hbody cdv A outer s H vs Q E hr hsp
 exact ⟨t,h.nox,q⟩
end
structure NmL (sc:Scope) (x:Str):Prop where
 l:sc.names.lookup x=some .local
 d:(x == ("__debug__":Str))=false
 c:(x == ("__classdict__":Str))=false
structure NmC (sc:Scope) (x:Str):Prop where
 l:sc.names.lookup x=some .cell
 d:(x == ("__debug__":Str))=false
 c:(x == ("__classdict__":Str))=false
structure NmG (sc:Scope) (x:Str):Prop where
 g:sc.names.lookup x=some .globalImplicit
 d:(x == ("__debug__":Str))=false
 n:x≠"__name__"
theorem us1 {us:List Value} (h:us.length=1):∃ a0,us=[a0]:=List.length_eq_one_iff.mp h
theorem us2 {us:List Value} (h:us.length=2):∃ a0 a1,us=[a0,a1]:=by
 cases us with
 | nil=>cases h
 | cons a0 t =>
   obtain ⟨a1,e⟩:=us1 (Nat.succ.inj h)
   subst e
   exact ⟨a0,a1,rfl⟩
theorem us3 {us:List Value} (h:us.length=3):∃ a0 a1 a2,us=[a0,a1,a2]:=by
 cases us with
 | nil=>cases h
 | cons a0 t =>
   obtain ⟨a1,a2,e⟩:=us2 (Nat.succ.inj h)
   subst e
   exact ⟨a0,a1,a2,rfl⟩
theorem us4 {us:List Value} (h:us.length=4):∃ a0 a1 a2 a3,us=[a0,a1,a2,a3]:=by
 cases us with
 | nil=>cases h
 | cons a0 t =>
   obtain ⟨a1,a2,a3,e⟩:=us3 (Nat.succ.inj h)
   subst e
   exact ⟨a0,a1,a2,a3,rfl⟩
theorem us5 {us:List Value} (h:us.length=5):∃ a0 a1 a2 a3 a4,us=[a0,a1,a2,a3,a4]:=by
 cases us with
 | nil=>cases h
 | cons a0 t =>
   obtain ⟨a1,a2,a3,a4,e⟩:=us4 (Nat.succ.inj h)
   subst e
   exact ⟨a0,a1,a2,a3,a4,rfl⟩
def nmL (sc:Scope) (x:Str):Bool:=decide (sc.names.lookup x=some .local) && !(x == ("__debug__":Str)) && !(x == ("__classdict__":Str))
def nmC (sc:Scope) (x:Str):Bool:=decide (sc.names.lookup x=some .cell) && !(x == ("__debug__":Str)) && !(x == ("__classdict__":Str))
def nmG (sc:Scope) (x:Str):Bool:=decide (sc.names.lookup x=some .globalImplicit) && !(x == ("__debug__":Str)) && !decide (x="__name__")
theorem NmL.of {sc:Scope} {x:Str} (h:nmL sc x=true):NmL sc x:=by
 unfold nmL at h
 simp only [Bool.and_eq_true,decide_eq_true_eq,Bool.not_eq_true'] at h
 exact ⟨h.1.1,h.1.2,h.2⟩
theorem NmC.of {sc:Scope} {x:Str} (h:nmC sc x=true):NmC sc x:=by
 unfold nmC at h
 simp only [Bool.and_eq_true,decide_eq_true_eq,Bool.not_eq_true'] at h
 exact ⟨h.1.1,h.1.2,h.2⟩
theorem NmG.of {sc:Scope} {x:Str} (h:nmG sc x=true):NmG sc x:=by
 unfold nmG at h
 simp only [Bool.and_eq_true,decide_eq_true_eq,Bool.not_eq_true',decide_eq_false_iff_not] at h
 exact ⟨h.1.1,h.1.2,h.2⟩
def scOk (N ps:List Str) (sc:Scope):Bool:=decide (sc.kind=.function) && !sc.isCoroutine && !sc.isGenerator && decide N.Nodup && decide (N.take ps.length=ps) && (ps.all fun x=>decide (sc.names.lookup x=some .local∨sc.names.lookup x=some .cell)) && (sc.names.all fun y=>decide (y.2≠.free))
theorem FnScope.of {N ps:List Str} {sc:Scope} (h:scOk N ps sc=true):FnScope N ps sc:=by
 unfold scOk at h
 simp only [Bool.and_eq_true,decide_eq_true_eq,Bool.not_eq_true',List.all_eq_true] at h
 obtain ⟨⟨⟨⟨⟨⟨h1,h2⟩,h3⟩,h4⟩,h5⟩,h6⟩,h7⟩:=h
 exact ⟨h1,h2,h3,h4,h5,h6,h7⟩
theorem pvl {X:Cx} (i:Nat) {x:Str} {pos:Pos} (n:NmL X.env.scope x) (hN:X.N[i]?=some x:=by rfl):PE X (.Name x pos) (tVar i):=pe_var hN (.inl n.l) n.d n.c
theorem pvc {X:Cx} (i:Nat) {x:Str} {pos:Pos} (n:NmC X.env.scope x) (hN:X.N[i]?=some x:=by rfl):PE X (.Name x pos) (tVar i):=pe_var hN (.inr (.inl n.l)) n.d n.c
theorem cxOf_K {CX:CXT} {P:Program} {w:World} {K:PySem.W.Frag} {mg:Str→Option Value} {base:Heap} {N:List Str} {qual:Str} {scope:Scope} {f:Addr} {cd:Value} {A:Around} {outer:List Env} {s:Shared} {H:Hp} {E:XK} :
   (cxOf CX P w K mg base N qual scope f cd A outer s H E).K=K:=rfl
theorem tNever_eq (D:Ends) (σ:St) (H:Hp):tNever D σ H=False:=rfl
theorem scal_ii (i j:Int):scal (.int i) (.int j)=true:=rfl
theorem scal_bb (i j:Bool):scal (.bl i) (.bl j)=true:=rfl
theorem scal_in (i:Int):scal (.int i) .non=true:=rfl
theorem scal_ni (i:Int):scal .non (.int i)=true:=rfl
theorem scal_nn:scal .non .non=true:=rfl
theorem scal_ss (i j:Str):scal (.str i) (.str j)=true:=rfl
theorem ixT {K:PySem.W.Frag} {H:Hp} {p:Addr} {xs:List V} {i:Int} {v:V} {Q:VK} (h:H p=some (.tup xs)) (e:atI xs i=some v) (q:Q v H):rIxT K (.ref p) (.int i) H Q:=⟨p,xs,i,v,rfl,rfl,SqT.of h,e,q⟩
theorem ixL {K:PySem.W.Frag} {H:Hp} {p:Addr} {xs:List V} {i:Int} {v:V} {Q:VK} (h:H p=some (.lst xs)) (e:atI xs i=some v) (q:Q v H):rIxL K (.ref p) (.int i) H Q:=⟨p,xs,i,v,rfl,rfl,SqL.of h,e,q⟩
theorem ixS {K:PySem.W.Frag} {H:Hp} {p:Addr} {xs:List V} {i:Int} {v:V} {Q:VK} (h:SqL K H p xs) (e:atI xs i=some v) (q:Q v H):rIxL K (.ref p) (.int i) H Q:=⟨p,xs,i,v,rfl,rfl,h,e,q⟩
theorem tyL {K:PySem.W.Frag} {H:Hp} {l:Addr} {xs:List V} (h:H l=some (.lst xs)):tyV K "list" (.ref l) H:=.inl ⟨rfl,_,SqL.of h⟩
theorem appR {H:Hp} {l:Addr} {xs:List V} {y:V} {Q:VK} (h:H l=some (.lst xs)) (hz:xs.length < sizeLine) (q:Q .non (upd H l (.lst (xs ++ [y])))):rAppend (.ref l) [y] H Q:=⟨l,xs,y,rfl,rfl,h,hz,q⟩
theorem insR {H:Hp} {l:Addr} {xs:List V} {i:Int} {y:V} {Q:VK} (h:H l=some (.lst xs)) (h0:0≤i) (h1:i≤xs.length) (hz:xs.length < sizeLine) (q:Q .non (upd H l (.lst (xs.take i.toNat ++ y :: xs.drop i.toNat)))):rInsert (.ref l) [.int i,y] H Q :=
 ⟨l,xs,i,y,rfl,rfl,h,h0,h1,hz,q⟩
theorem popR {H:Hp} {l:Addr} {xs:List V} {y:V} {Q:VK} (h:H l=some (.lst (xs ++ [y]))) (q:Q y (upd H l (.lst xs))):rPop (.ref l) [] H Q :=
 ⟨l,xs ++ [y],y,rfl,rfl,h,by simp,by rw [List.dropLast_concat]; exact q⟩
theorem small {n:Nat} (h:n≤100000):n < sizeLine:=Nat.lt_of_le_of_lt h (by decide)
theorem smallE {n:Nat} (h:n≤100000):n≤sizeLine:=Nat.le_of_lt (small h)
theorem atI_int {α:Type} {xs:List α} {i:Int} {v:α} (h0:0≤i) (h:xs[i.toNat]?=some v):atI xs i=some v:=by
 obtain ⟨n,rfl⟩:∃ n:Nat,i=n:=⟨i.toNat,by omega⟩
 exact atI_nat (by simpa using h)
theorem pe_globI {X:Cx} {x:Str} {i:Int} {pos:Pos} (hg:Gl X x) (hm:∃ t,X.mg x=some (.int i t)) (hd:(x == ("__debug__":Str))=false:=by decide):PE X (.Name x pos) (tC (.int i)):=by
 obtain ⟨t,e⟩:=hm
 exact pe_glob hg e ⟨t,rfl⟩ hd
def Itx (K:PySem.W.Frag):Bool→Addr→It
 | true,a=>Itl K a
 | false,a=>Itt K a
def iAny (K:PySem.W.Frag) (c:Bool) (tl:TE):TI:=fun σ H R=>tl σ H fun x H1=>∃ a,x=.ref a∧(∃ xs,SqX K c H1 a xs)∧R (Itx K c a) H1
theorem pi_any {X:Cx} {tg l:Expr} {tl:TE} (c:Bool) (hl:PE X l tl):PI X tg l (iAny X.K c tl):=by
 cases c
 · exact pi_tup hl
 · exact pi_list hl
theorem for_any {K:PySem.W.Frag} {c:Bool} {a:Addr} {xs:List V} {g:TG} {tb:TS} {D:Ends} {σ:St} {H:Hp} (Pv:Nat→St→Hp→Prop) (h0:Pv 0 σ H) (hl:∀ i σ H,i≤xs.length→Pv i σ H→SqX K c H a xs)
   (hs:∀ i x σ H,xs[i]?=some x→Pv i σ H→g x σ H fun σ2 H2=>tb { D with nx:=Pv (i + 1),ct:=Pv (i + 1),bk:=D.nx } σ2 H2) (hd:∀ σ H,Pv xs.length σ H→D.nx σ H) :
   ∃ W:Nat→Nat→St→Hp→Prop,(∃ m,W 0 m σ H)∧∀ i m σ H,W i m σ H →
     ((Itx K c a).stop i H∧D.nx σ H)∨((Itx K c a).go i H∧∃ N:St→Hp→Prop,(∀ σ' H',N σ' H'→∃ m',m' < m∧W (i + 1) m' σ' H')∧∀ x H',(Itx K c a).yld i H x H'→g x σ H' fun σ2 H2=>tb { D with nx:=N,ct:=N,bk:=D.nx } σ2 H2):=by
 cases c
 · exact for_tup Pv h0 hl hs hd
 · exact for_list Pv h0 hl hs hd
def CompGo (J:It) (p:Addr) (Q:VK) (g:TG) (tc:TT) (te:TE) (σ0:St) (H0:Hp):Prop :=
 ∃ W:Nat→Nat→List V→St→Hp→Prop,(∃ m,W 0 m [] σ0 H0)∧∀ i m ys σc Hc,W i m ys σc Hc →
   (J.stop i Hc∧Q (.ref p) Hc)∨(J.go i Hc∧∀ x H',J.yld i Hc x H'→g x σc H' fun σ2 H2=>tc σ2 H2 fun b H3 =>
     if b=true then te σ2 H3 fun y H4=>H4 p=some (.lst ys)∧ys.length < sizeLine∧∃ m',m' < m∧W (i + 1) m' (ys ++ [y]) σ2 (upd H4 p (.lst (ys ++ [y])))
     else ∃ m',m' < m∧W (i + 1) m' ys σ2 H3)
theorem tComp_eq' {own:Nat} {js:List Nat} {wi:TI} {g:TG} {tc:TT} {te:TE} {σ:St} {H:Hp} {Q:VK}:tComp own js wi g tc te σ H Q=wi σ H fun J H1=>∀ p,H1 p=none→CompGo J p Q g tc te (compStart0 own js σ) (upd H1 p (.lst [])):=rfl
def ForGo (J:It) (D:Ends) (g:TG) (tb:TS) (σ:St) (H:Hp):Prop:=∃ W:Nat→Nat→St→Hp→Prop,(∃ m,W 0 m σ H)∧∀ i m σ H,W i m σ H →
 (J.stop i H∧D.nx σ H)∨(J.go i H∧∃ N:St→Hp→Prop,(∀ σ' H',N σ' H'→∃ m',m' < m∧W (i + 1) m' σ' H')∧∀ x H',J.yld i H x H'→g x σ H' fun σ2 H2=>tb { D with nx:=N,ct:=N,bk:=D.nx } σ2 H2)
theorem tFor_eq {wi:TI} {g:TG} {tb:TS} {D:Ends} {σ:St} {H:Hp}:tFor wi g tb D σ H=wi σ H fun J H1=>ForGo J D g tb σ H1:=rfl
theorem comp_any {K:PySem.W.Frag} {c:Bool} {a p:Addr} {xs:List V} {Q:VK} {g:TG} {tc:TT} {te:TE} {σ0:St} {H0:Hp} (Pv:Nat→List V→St→Hp→Prop) (h0:Pv 0 [] σ0 H0) (hl:∀ i ys σ H,i≤xs.length→Pv i ys σ H→SqX K c H a xs)
   (hs:∀ (i:Nat) (x:V) (ys:List V) (σ:St) (H:Hp) (N:List V→St→Hp→Prop),(∀ ys' σ' H',Pv (i + 1) ys' σ' H'→N ys' σ' H')→xs[i]?=some x→Pv i ys σ H→g x σ H fun σ2 H2=>tc σ2 H2 fun b H3 =>
     if b=true then te σ2 H3 fun y H4=>H4 p=some (.lst ys)∧ys.length < sizeLine∧N (ys ++ [y]) σ2 (upd H4 p (.lst (ys ++ [y]))) else N ys σ2 H3)
   (hd:∀ ys σ H,Pv xs.length ys σ H→Q (.ref p) H):CompGo (Itx K c a) p Q g tc te σ0 H0:=by
 refine ⟨fun i m ys σ H=>m=xs.length - i∧i≤xs.length∧Pv i ys σ H,⟨xs.length,by simp,Nat.zero_le _,h0⟩,?_⟩
 rintro i m ys σ H ⟨rfl,hi,pv⟩
 have q:=hl i ys σ H hi pv
 by_cases hlt:i < xs.length
 · refine .inr ⟨?_,fun x H' y=>?_⟩
   · cases c
     · exact ⟨xs,xs[i],q,by simp [hlt]⟩
     · exact ⟨xs,xs[i],q,by simp [hlt]⟩
   · have e:H'=H∧xs[i]?=some x:=by
       cases c
       · exact ⟨y.1,y.2 xs q⟩
       · exact ⟨y.1,y.2 xs q⟩
     obtain ⟨rfl,hx⟩:=e
     exact hs i x ys σ _ (fun ys' σ' H'=>∃ m',m' < xs.length - i∧(m'=xs.length - (i + 1)∧i + 1≤xs.length∧Pv (i + 1) ys' σ' H')) (fun ys' σ' H' pv'=>⟨xs.length - (i + 1),by omega,rfl,hlt,pv'⟩) hx pv
 · have e:i=xs.length:=by omega
   subst e
   refine .inl ⟨?_,hd ys σ H pv⟩
   cases c
   · exact ⟨xs,q,Nat.le_refl _⟩
   · exact ⟨xs,q,Nat.le_refl _⟩
theorem comp_range {lo:Int} {n:Nat} {p:Addr} {Q:VK} {g:TG} {tc:TT} {te:TE} {σ0:St} {H0:Hp} (Pv:Nat→List V→St→Hp→Prop) (h0:Pv 0 [] σ0 H0)
   (hs:∀ (i:Nat) (ys:List V) (σ:St) (H:Hp) (N:List V→St→Hp→Prop),(∀ ys' σ' H',Pv (i + 1) ys' σ' H'→N ys' σ' H')→i < n→Pv i ys σ H→g (.int (lo + i)) σ H fun σ2 H2=>tc σ2 H2 fun b H3 =>
     if b=true then te σ2 H3 fun y H4=>H4 p=some (.lst ys)∧ys.length < sizeLine∧N (ys ++ [y]) σ2 (upd H4 p (.lst (ys ++ [y]))) else N ys σ2 H3)
   (hd:∀ ys σ H,Pv n ys σ H→Q (.ref p) H):CompGo (Itr lo n) p Q g tc te σ0 H0:=by
 refine ⟨fun i m ys σ H=>m=n - i∧i≤n∧Pv i ys σ H,⟨n,by simp,Nat.zero_le _,h0⟩,?_⟩
 rintro i m ys σ H ⟨rfl,hi,pv⟩
 by_cases hlt:i < n
 · refine .inr ⟨hlt,fun x H' y=>?_⟩
   obtain ⟨rfl,rfl⟩:=y
   exact hs i ys σ _ (fun ys' σ' H'=>∃ m',m' < n - i∧(m'=n - (i + 1)∧i + 1≤n∧Pv (i + 1) ys' σ' H')) (fun ys' σ' H' pv'=>⟨n - (i + 1),by omega,rfl,hlt,pv'⟩) hlt pv
 · have e:i=n:=by omega
   subst e
   exact .inl ⟨Nat.le_refl _,hd ys σ H pv⟩
theorem pb_len:bootBuiltins "len"=some (.builtin "len"):=by decide +kernel
theorem pb_all:bootBuiltins "all"=some (.builtin "all"):=by decide +kernel
theorem pb_sorted:bootBuiltins "sorted"=some (.builtin "sorted"):=by decide +kernel
theorem pb_list:bootBuiltins "list"=some (.type "list"):=by decide +kernel
theorem pb_tuple:bootBuiltins "tuple"=some (.type "tuple"):=by decide +kernel
section
variable {X:Cx} {a b o e:Expr} {es:List Expr} {ta tb to:TE} {t:TA} {pos apos cpos:Pos} {f name:Str} {T id:String} {r:V→List V→Hp→VK→Prop}
theorem call_tuple_ofK (K:PySem.W.Frag) (h:X.K=K):CallR X (.type "tuple") (fun xs H Q=>∃ p ys,xs=[.ref p]∧((SqL K H p ys∧∀ l,H l=none→Q (.ref l) (upd H l (.tup ys)))∨(SqT K H p ys∧Q (.ref p) H))):=by subst h; exact call_tuple_of
theorem ix_listK (K:PySem.W.Frag) (h:X.K=K):IxR X (rIxL K):=by subst h; exact ix_list
theorem ix_tupK (K:PySem.W.Frag) (h:X.K=K):IxR X (rIxT K):=by subst h; exact ix_tup
end
theorem lookup_mem {x:Str} {k:NameKind}:∀ {l:List (Str × NameKind)},l.lookup x=some k→∃ y,(y,k)∈l
 | [],h=>by simp at h
 | (n,j) :: r,h=>by
   rw [List.lookup_cons] at h
   cases q:x == n with
   | true =>
     rw [q] at h
     cases h
     exact ⟨n,List.mem_cons_self⟩
   | false =>
     rw [q] at h
     obtain ⟨y,hy⟩:=lookup_mem h
     exact ⟨y,List.mem_cons_of_mem _ hy⟩
theorem ct_plain {X:Cx} {Nc:List Str} {scope:Scope} (own:Nat) (hf:∀ y∈scope.names,y.2≠.free) (hc:∀ y∈scope.names,y.2≠.cell) (hk:scope.kind=.function) (hn:∀ y∈scope.names,y.2=.local→scope.names.lookup y.1=some .local)
   (hl:Nc.length=own):CompTxt X Nc own [] scope [] where
 clos:=closureFor_none hf
 kind:=hk
 nocell:=hc
 names:=hn
 cells:=fun x c h=>by cases h
 has:=fun x h=>by
   have key:∀ k,(relabel scope X.env).names.lookup x=some k→k≠.cell∧k≠.free:=fun k e=>by
     obtain ⟨y,hy⟩:=lookup_mem e
     obtain ⟨⟨n,k0⟩,hm,e2⟩:=List.mem_map.mp hy
     have h1:=hf _ hm
     have h2:=hc _ hm
     have e3:(k0 == NameKind.free)=false:=by simpa using h1
     simp only [e3,Bool.false_and,Bool.false_eq_true,if_false] at e2
     cases e2
     exact ⟨h2,h1⟩
   rcases h with h | h
   · exact absurd rfl (key _ h).1
   · exact absurd rfl (key _ h).2
 len:=by simpa using hl
 outer:=fun i x h=>by
   rw [List.getElem?_eq_none (by omega)] at h
   cases h
theorem for_anyN {K:PySem.W.Frag} {c:Bool} {a:Addr} {xs:List V} {g:TG} {tb:TS} {D:Ends} {σ:St} {H:Hp} (Pv:Nat→St→Hp→Prop) (h0:Pv 0 σ H) (hl:∀ i σ H,i≤xs.length→Pv i σ H→SqX K c H a xs)
   (hs:∀ (i:Nat) (x:V) (σ:St) (H:Hp) (N:St→Hp→Prop),(∀ σ' H',Pv (i + 1) σ' H'→N σ' H')→xs[i]?=some x→Pv i σ H→g x σ H fun σ2 H2=>tb { D with nx:=N,ct:=N,bk:=D.nx } σ2 H2) (hd:∀ σ H,Pv xs.length σ H→D.nx σ H) :
   ForGo (Itx K c a) D g tb σ H:=for_any Pv h0 hl (fun i x σ H hx p=>hs i x σ H (Pv (i + 1)) (fun _ _ z=>z) hx p) hd
theorem for_listN {K:PySem.W.Frag} {a:Addr} {xs:List V} {g:TG} {tb:TS} {D:Ends} {σ:St} {H:Hp} (Pv:Nat→St→Hp→Prop) (h0:Pv 0 σ H) (hl:∀ i σ H,i≤xs.length→Pv i σ H→SqL K H a xs)
   (hs:∀ (i:Nat) (x:V) (σ:St) (H:Hp) (N:St→Hp→Prop),(∀ σ' H',Pv (i + 1) σ' H'→N σ' H')→xs[i]?=some x→Pv i σ H→g x σ H fun σ2 H2=>tb { D with nx:=N,ct:=N,bk:=D.nx } σ2 H2) (hd:∀ σ H,Pv xs.length σ H→D.nx σ H) :
   ForGo (Itl K a) D g tb σ H:=for_list Pv h0 hl (fun i x σ H hx p=>hs i x σ H (Pv (i + 1)) (fun _ _ z=>z) hx p) hd
theorem for_tupN {K:PySem.W.Frag} {a:Addr} {xs:List V} {g:TG} {tb:TS} {D:Ends} {σ:St} {H:Hp} (Pv:Nat→St→Hp→Prop) (h0:Pv 0 σ H) (hl:∀ i σ H,i≤xs.length→Pv i σ H→SqT K H a xs)
   (hs:∀ (i:Nat) (x:V) (σ:St) (H:Hp) (N:St→Hp→Prop),(∀ σ' H',Pv (i + 1) σ' H'→N σ' H')→xs[i]?=some x→Pv i σ H→g x σ H fun σ2 H2=>tb { D with nx:=N,ct:=N,bk:=D.nx } σ2 H2) (hd:∀ σ H,Pv xs.length σ H→D.nx σ H) :
   ForGo (Itt K a) D g tb σ H:=for_tup Pv h0 hl (fun i x σ H hx p=>hs i x σ H (Pv (i + 1)) (fun _ _ z=>z) hx p) hd
theorem for_rangeN {lo:Int} {n:Nat} {g:TG} {tb:TS} {D:Ends} {σ:St} {H:Hp} (Pv:Nat→St→Hp→Prop) (h0:Pv 0 σ H)
   (hs:∀ (i:Nat) (σ:St) (H:Hp) (N:St→Hp→Prop),(∀ σ' H',Pv (i + 1) σ' H'→N σ' H')→i < n→Pv i σ H→g (.int (lo + i)) σ H fun σ2 H2=>tb { D with nx:=N,ct:=N,bk:=D.nx } σ2 H2) (hd:∀ σ H,Pv n σ H→D.nx σ H) :
   ForGo (Itr lo n) D g tb σ H:=for_range Pv h0 (fun i σ H hi p=>hs i σ H (Pv (i + 1)) (fun _ _ z=>z) hi p) hd
theorem while_n {c:TT} {tb:TS} {D:Ends} {σ:St} {H:Hp} (W:Nat→St→Hp→Prop) (n0:Nat) (h0:W n0 σ H)
   (hs:∀ (n:Nat) (σ:St) (H:Hp) (N:St→Hp→Prop),(∀ n' σ' H',n' < n→W n' σ' H'→N σ' H')→(∀ σ' H',N σ' H'→∃ m',m' < n∧W m' σ' H')→W n σ H →
     c σ H fun b H1=>if b=true then ∃ N:St→Hp→Prop,(∀ σ' H',N σ' H'→∃ m',m' < n∧W m' σ' H')∧tb { D with nx:=N,ct:=N,bk:=D.nx } σ H1 else D.nx σ H1):tWhile c tb D σ H :=
 ⟨W,⟨n0,h0⟩,fun n σ H w=>hs n σ H (fun σ' H'=>∃ m',m' < n∧W m' σ' H') (fun n' _ _ hn w'=>⟨n',hn,w'⟩) (fun _ _ z=>z) w⟩
theorem p60:(0:Int) < 10 ^ (60:Int).toNat:=Int.pow_pos (by decide)
open Pb
def vRoad (r:Road):List V:=[.int r.a,.int r.b,.int r.t,.int r.u]
abbrev RoadsAt (H:Hp):List Addr→List Road→Prop:=Paired fun p r=>H p=some (.tup (vRoad r))
theorem RoadsAt.same {H H':Hp} (e:Same H H') {ps:List Addr} {rs:List Road} (h:RoadsAt H ps rs):RoadsAt H' ps rs:=Paired.imp' (fun p r q=>e p _ q) h
theorem RoadsAt.get {H:Hp}:∀ {ps:List Addr} {rs:List Road} {i:Nat} {x:V},RoadsAt H ps rs→(ps.map V.ref)[i]?=some x→∃ p r,x=.ref p∧ps[i]?=some p∧rs[i]?=some r∧H p=some (.tup (vRoad r))
 | _,_,i,x,.nil,e=>by simp at e
 | _,_,0,x,.cons (a:=p) (b:=r) h hs,e=>⟨p,r,by simpa using e.symm,by simp,by simp,h⟩
 | a :: l1,_,i + 1,x,.cons h hs,e=>by
   have e':(List.map V.ref l1)[i]?=some x:=by simpa using e
   obtain ⟨p,r,h1,h2,h3,h4⟩:=RoadsAt.get hs e'
   exact ⟨p,r,h1,by simpa using h2,by simpa using h3,h4⟩
theorem Same.tup {K:PySem.W.Frag} {H H':Hp} {a:Addr} {xs:List V} (e:Same H H') (h:SqT K H a xs):SqT K H' a xs:=by
 rcases h with (h | ⟨o,h⟩) | h
 · exact .inl (.inl (e _ _ h))
 · exact .inl (.inr ⟨o,e _ _ h⟩)
 · exact .inr h
theorem Same.sqX {K:PySem.W.Frag} {H H':Hp} {c:Bool} {a:Addr} {xs:List V} (e:Same H H') (h:SqX K c H a xs):SqX K c H' a xs:=by
 cases c
 · exact Same.tup e h
 · exact Same.seq e h
theorem Same.new {H:Hp} {p:Addr} (o:HO) (h:H p=none):Same H (upd H p o):=fun b u e=>by rw [upd_ne (ne_of_none e h)]; exact e
end L2
set_option Elab.async false
set_option linter.all false
set_option maxRecDepth 100000
namespace L2
open PySem PySem.Spec PyProof.Rows
abbrev bmV:List Value:=[.type "ValueError",.type "Exception",.type "BaseException",.type "object"]
section
variable {prog:Program} {w:World} {A:Around} {E:Value→Shared→Prop} {s:Shared} {K:PySem.W.Frag} {x C:Addr} {ox:Obj} {od:Option Obj}
end
end L2
set_option Elab.async false
set_option linter.all false
set_option maxRecDepth 100000
namespace L2
open PySem PySem.Spec PyProof.Rows
def ErrO (h:Heap) (ea:Addr) (cls:Value) (od:Option Addr) (head:Value):Prop:=∃ oe vs,h.get? ea=some oe∧oe.cls=cls∧oe.dict=od∧oe.data=.fields vs∧vs[1]?=some head
def TbO (h:Heap) (T:Addr) (fl:Value):Prop:=∃ oT ts,h.get? T=some oT∧oT.data=.fields ts∧ts[3]?=some fl
structure Err (h:Heap) (ea T:Addr) (cls:Value) (od:Option Addr) (fl:Value):Prop where
 e:ErrO h ea cls od (.ref T)
 t:TbO h T fl
 ne:T≠ea
structure Kept (fs xs:List Addr) (h h':Heap):Prop where
 keep:∀ b o,h.get? b=some o→b ∉ fs→b ∉ xs→h'.get? b=some o
 slot:∀ b o,h.get? b=some o→b∈fs→b ∉ xs→∃ sl,h'.get? b=some { o with slots:=sl }
 there:∀ b o,h.get? b=some o→∃ o',h'.get? b=some o'
theorem Kept.mono {fs xs ys:List Addr} {h h':Heap} (k:Kept fs xs h h') (s:∀ b∈xs,b∈ys):Kept fs ys h h':=⟨fun b o e f x=>k.keep b o e f fun z=>x (s b z),fun b o e f x=>k.slot b o e f fun z=>x (s b z),k.there⟩
theorem Kept.trans {fs xs:List Addr} {h h1 h2:Heap} (a:Kept fs xs h h1) (b:Kept fs xs h1 h2):Kept fs xs h h2 where
 keep:=fun c o e f x=>b.keep c o (a.keep c o e f x) f x
 slot:=fun c o e f x=>by
   obtain ⟨s1,e1⟩:=a.slot c o e f x
   obtain ⟨s2,e2⟩:=b.slot c _ e1 f x
   exact ⟨s2,e2⟩
 there:=fun c o e=>by
   obtain ⟨o1,e1⟩:=a.there c o e
   exact b.there c o1 e1
theorem Kept.of_all {fs xs:List Addr} {h h':Heap} (k:∀ b o,h.get? b=some o→h'.get? b=some o):Kept fs xs h h':=⟨fun b o e _ _=>k b o e,fun b o e _ _=>⟨o.slots,k b o e⟩,fun b o e=>⟨o,k b o e⟩⟩
theorem kept_set {fs xs:List Addr} {h:Heap} {a:Addr} {oa:Obj} {vs:Array Value} {i:Nat} {v:Value} (ha:h.get? a=some oa) (hd:oa.data=.fields vs) (hx:a∈xs):Kept fs xs h (h.update a (Obj.mapFields (·.setIfInBounds i v))):=by
 have oth:∀ b o,h.get? b=some o→b ∉ xs→(h.update a (Obj.mapFields (·.setIfInBounds i v))).get? b=some o:=fun b o e x=>by
   rw [Heap.get?_update_other _ _ (fun (z:a=b)=>x (z ▸ hx))]
   exact e
 refine ⟨fun b o e _ x=>oth b o e x,fun b o e _ x=>⟨o.slots,oth b o e x⟩,fun b o e=>?_⟩
 by_cases z:b=a
 · subst z
   exact ⟨_,Heap.get?_update_self _ ha (Obj.isFreed_of_fields (Obj.data_mapFields hd _))⟩
 · rw [Heap.get?_update_other _ _ (Ne.symm z)]
   exact ⟨o,e⟩
theorem errO_set {h:Heap} {ea:Addr} {cls hd v:Value} {od:Option Addr} (e:ErrO h ea cls od hd):ErrO (h.update ea (Obj.mapFields (·.setIfInBounds 1 v))) ea cls od v:=by
 obtain ⟨oe,vs,h1,h2,h3,h4,h5⟩:=e
 have sz:1 < vs.size:=(Array.getElem?_eq_some_iff.mp h5).1
 refine ⟨_,_,Heap.get?_update_self _ h1 (Obj.isFreed_of_fields (Obj.data_mapFields h4 _)),?_,?_,Obj.data_mapFields h4 _,by simp [sz]⟩
 · rw [← h2]; exact Obj.cls_mapFields _ _
 · rw [← h3]; obtain ⟨c,d,dt,sl⟩:=oe; cases dt <;> rfl
theorem errO_other {h:Heap} {ea a:Addr} {cls hd:Value} {od:Option Addr} {f:Obj→Obj} (e:ErrO h ea cls od hd) (ne:a≠ea):ErrO (h.update a f) ea cls od hd:=by
 obtain ⟨oe,vs,h1,h2⟩:=e
 exact ⟨oe,vs,by rw [Heap.get?_update_other _ _ ne]; exact h1,h2⟩
theorem errO_keep {h h':Heap} {ea:Addr} {cls hd:Value} {od:Option Addr} (e:ErrO h ea cls od hd) (k:∀ o,h.get? ea=some o→h'.get? ea=some o):ErrO h' ea cls od hd:=by
 obtain ⟨oe,vs,h1,h2⟩:=e
 exact ⟨oe,vs,k _ h1,h2⟩
theorem errO_nofr {h base:Heap} {ea:Addr} {cls hd:Value} {od:Option Addr} {l:List Env} (e:ErrO h ea cls od hd) (f:h.FunFrames base l):ea ∉ frs l:=fun z=>by
 obtain ⟨oe,vs,h1,_,_,h4,_⟩:=e
 obtain ⟨_,o,ho,hn⟩:=f.mem z
 rw [h1] at ho
 cases ho
 exact hn vs h4
theorem tbO_nofr {h base:Heap} {T:Addr} {fl:Value} {l:List Env} (e:TbO h T fl) (f:h.FunFrames base l):T ∉ frs l:=fun z=>by
 obtain ⟨oe,vs,h1,h4,_⟩:=e
 obtain ⟨_,o,ho,hn⟩:=f.mem z
 rw [h1] at ho
 cases ho
 exact hn vs h4
section
variable {M:Model} {A:Around} {E:Value→Shared→Prop} {s:Shared} {Q:Unit→Shared→Prop} {fs:List Addr} {ea T L:Addr} {cls fl hd:Value} {od:Option Addr} {base:Heap} {env:Env} {outer:List Env}
theorem st_land (r:Err s.heap ea T cls od fl) (h:∀ h',Err h' ea T cls od .none→Kept fs [T] s.heap h'→Q () { s with heap:=h' }):wpAny M A (setFlight (.ref ea) none) Q E s:=by
 obtain ⟨⟨oe,vs,h1,h2,h3,h4,h5⟩,⟨oT,ts,t1,t2,t3⟩,ne⟩:=r
 have sz:3 < ts.size:=(Array.getElem?_eq_some_iff.mp t3).1
 unfold setFlight
 refine wpAny_bind (wpAny_field h1 h4 h5 ?_)
 rw [if_pos (by simp:(Value.ref T != Value.none)=true)]
 refine wpAny_setField t1 t2 sz (h _ ⟨errO_other ⟨oe,vs,h1,h2,h3,h4,h5⟩ ne,⟨_,_,Heap.get?_update_self _ t1 (Obj.isFreed_of_fields (Obj.data_mapFields t2 _)),Obj.data_mapFields t2 _,by simp [sz]⟩,ne⟩ (kept_set t1 t2 (by simp)))
theorem st_entry {head:Value} {hadNext:Bool} (hfr:A.frames=some (env :: outer)) (hl:s.heap.FunFrames base (env :: outer)) (hf:env.frame=some L) (r:ErrO s.heap ea cls od hd)
   (h:∀ h' T',Err h' ea T' cls od (rawInt L)→Kept (frs (env :: outer)) [ea] s.heap h'→s.heap.get? T'=none→Q () { s with heap:=h' }) :
   wpAny M A (do let a ← frameOf env; let pl ← entryPlaceOf L hadNext; let b ← EntryCells.newEntry head a .none (rawInt L) .none pl; setField (.ref ea) 1 b) Q E s:=by
 have nf:=errO_nofr r hl
 refine wpAny_bind (wpAny_frameOf_fun hfr hl hf fun g1 so=>wpAny_bind (wpAny_entryPlaceOf fun pl hpl=>?_))
 unfold EntryCells.newEntry newFields
 refine wpAny_bind (wpAny_newObj_type ?_ (hpl.sizeOk5 _ _ _ _ _))
 have r1:ErrO g1 ea cls od hd:=errO_keep r fun o e=>(so.2.1 ea nf).trans e
 generalize ht:({ cls:=.type "traceback",dict:=none,data:=.fields ([head,.ref L,.none,rawInt L,.none] ++ (if pl.isEmpty then List.replicate 6 Value.none else pl)).toArray }:Obj)=tb
 have r2:ErrO (g1.push tb) ea cls od hd:=errO_keep r1 fun o e=>Heap.get?_push_of_some _ e
 obtain ⟨oe,vs,e1,e2,e3,e4,e5⟩:=id r2
 have lt:ea < g1.objs.size:=by
   obtain ⟨_,_,e,_⟩:=r1
   exact Heap.lt_size e
 have hT:(g1.push tb).get? g1.objs.size=some tb:=Heap.get?_push_size g1 (by rw [← ht]; rfl)
 refine wpAny_setField e1 e4 (Array.getElem?_eq_some_iff.mp e5).1 (h _ g1.objs.size ⟨errO_set r2,⟨tb,([head,.ref L,.none,rawInt L,.none] ++ (if pl.isEmpty then List.replicate 6 Value.none else pl)).toArray,?_,by rw [← ht],by simp⟩,Nat.ne_of_gt lt⟩ ?_ ?_)
 · rw [Heap.get?_update_other _ _ (Nat.ne_of_lt lt)]
   exact hT
 · have k1:Kept (frs (env :: outer)) [ea] s.heap g1:=⟨fun b o e f _=>(so.2.1 b f).trans e,fun b o e _ _=>so.2.2 b o e,fun b o e=>by
     obtain ⟨sl,z⟩:=so.2.2 b o e
     exact ⟨_,z⟩⟩
   exact k1.trans ((Kept.of_all fun b o e=>Heap.get?_push_of_some _ e).trans (kept_set e1 e4 (by simp)))
 · exact Heap.get?_none_of_le (by rw [so.1]; exact Nat.le_refl _)
theorem st_first (hfr:A.frames=some (env :: outer)) (hl:s.heap.FunFrames base (env :: outer)) (hf:env.frame=some L) (r:ErrO s.heap ea cls od .none)
   (h:∀ h' T',Err h' ea T' cls od (rawInt L)→Kept (frs (env :: outer)) [ea] s.heap h'→s.heap.get? T'=none→Q () { s with heap:=h' }):wpAny M A (noteFrame (.ref ea) env) Q E s:=by
 obtain ⟨oe,vs,e1,e2,e3,e4,e5⟩:=id r
 unfold noteFrame
 simp only [hf]
 refine wpAny_bind (wpAny_field e1 e4 e5 ?_)
 rw [if_neg (by decide)]
 exact st_entry hfr hl hf r h
theorem st_next (hfr:A.frames=some (env :: outer)) (hl:s.heap.FunFrames base (env :: outer)) (hf:env.frame=some L) (r:Err s.heap ea T cls od .none)
   (h:∀ h' T',Err h' ea T' cls od (rawInt L)→Kept (frs (env :: outer)) [ea,T] s.heap h'→s.heap.get? T'=none→Q () { s with heap:=h' }):wpAny M A (noteFrame (.ref ea) env) Q E s:=by
 have nT:=tbO_nofr r.t hl
 obtain ⟨⟨oe,vs,e1,e2,e3,e4,e5⟩,⟨oT,ts,t1,t2,t3⟩,ne⟩:=id r
 unfold noteFrame
 simp only [hf]
 refine wpAny_bind (wpAny_field e1 e4 e5 ?_)
 rw [if_pos (by simp:(Value.ref T != Value.none)=true)]
 refine wpAny_bind (wpAny_field t1 t2 t3 ?_)
 rw [if_neg (by simp [rawInt])]
 have k1:Kept (frs (env :: outer)) [ea,T] s.heap (s.heap.update T (Obj.mapFields (·.setIfInBounds 3 Value.none))):=kept_set t1 t2 (by simp)
 refine wpAny_bind (wpAny_setField t1 t2 (Array.getElem?_eq_some_iff.mp t3).1 ?_)
 refine st_entry hfr (hl.of_keeps fun b o e nf=>⟨o,?_,rfl⟩) hf (errO_other r.e ne) fun h' T' r' k2 n=>h h' T' r' (k1.trans (k2.mono (by simp))) ?_
 · by_cases z:b=T
   · subst z
     rw [t1] at e
     cases e
     exact absurd t2 (nf ts)
   · rw [Heap.get?_update_other _ _ (Ne.symm z)]
     exact e
 · cases q:s.heap.get? T' with
   | none=>rfl
   | some o =>
     obtain ⟨o',z⟩:=k1.there T' o q
     rw [z] at n
     cases n
theorem st_leave1 (hfr:A.frames=some (env :: outer)) (hl:s.heap.FunFrames base (env :: outer)) (hf:env.frame=some L) (r:ErrO s.heap ea cls od .none)
   (h:∀ h' T',Err h' ea T' cls od .none→Kept (frs (env :: outer)) [ea] s.heap h'→s.heap.get? T'=none→Q () { s with heap:=h' }):wpAny M A (leaving env (.ref ea)) Q E s:=by
 unfold leaving
 refine wpAny_bind (st_first hfr hl hf r fun h1 T1 r1 k1 n1=>st_land (fs:=frs (env :: outer)) (s:={ s with heap:=h1 }) r1 fun h2 r2 k2=>h h2 T1 r2 ⟨fun b o e f x=>k2.keep b o (k1.keep b o e f x) f ?_,fun b o e f x=>?_,fun b o e=>?_⟩ n1)
 · simp only [List.mem_singleton]
   rintro rfl
   rw [n1] at e
   cases e
 · obtain ⟨s1,e1⟩:=k1.slot b o e f x
   obtain ⟨s2,e2⟩:=k2.slot b _ e1 f (by
     simp only [List.mem_singleton]
     rintro rfl
     rw [n1] at e
     cases e)
   exact ⟨s2,e2⟩
 · obtain ⟨o1,e1⟩:=k1.there b o e
   exact k2.there b o1 e1
theorem st_leave (hfr:A.frames=some (env :: outer)) (hl:s.heap.FunFrames base (env :: outer)) (hf:env.frame=some L) (r:Err s.heap ea T cls od .none)
   (h:∀ h' T',Err h' ea T' cls od .none→Kept (frs (env :: outer)) [ea,T] s.heap h'→s.heap.get? T'=none→Q () { s with heap:=h' }):wpAny M A (leaving env (.ref ea)) Q E s:=by
 unfold leaving
 refine wpAny_bind (st_next hfr hl hf r fun h1 T1 r1 k1 n1=>st_land (fs:=frs (env :: outer)) (s:={ s with heap:=h1 }) r1 fun h2 r2 k2=>h h2 T1 r2 ⟨fun b o e f x=>k2.keep b o (k1.keep b o e f x) f ?_,fun b o e f x=>?_,fun b o e=>?_⟩ n1)
 · simp only [List.mem_singleton]
   rintro rfl
   rw [n1] at e
   cases e
 · obtain ⟨s1,e1⟩:=k1.slot b o e f x
   obtain ⟨s2,e2⟩:=k2.slot b _ e1 f (by
     simp only [List.mem_singleton]
     rintro rfl
     rw [n1] at e
     cases e)
   exact ⟨s2,e2⟩
 · obtain ⟨o1,e1⟩:=k1.there b o e
   exact k2.there b o1 e1
end
def CXe (P:Program) (w:World):CXT:=fun outer H s E e s'=>∃ (ea T:Addr) (cls:Value) (od:Option Addr) (H':Hp),e=.ref ea∧s'.os=s.os∧AllBare s'.gens∧Un (frs outer) [] H H' s.heap s'.heap∧HOk P w H' s'.heap ∧
 H' ea=none∧H' T=none∧s.heap.get? ea=none∧s.heap.get? T=none∧Err s'.heap ea T cls od .none∧E cls od H'
theorem quietE {P:Program} {w:World}:Quiet (CXe P w):=fun outer H s e s' h=>by
 obtain ⟨_,_,_,_,_,_,_,_,_,_,_,_,_,_,_,z⟩:=h
 exact z
theorem kept_hok {P:Program} {w:World} {H:Hp} {h h':Heap} {fs xs:List Addr} (x:HOk P w H h) (k:Kept fs xs h h') (f:∀ b∈fs,H b=none) (u:∀ b∈xs,H b=none):HOk P w H h':=fun a o e=>by
 refine (x a o e).stay (fun b ob hb q=>k.keep b ob q ?_ ?_) (fun _ q=>q) fun _ _ q=>q
 · intro z
   rcases hb with rfl | hb
   · rw [f _ z] at e; cases e
   · rw [f _ z] at hb; cases hb
 · intro z
   rcases hb with rfl | hb
   · rw [u _ z] at e; cases e
   · rw [u _ z] at hb; cases hb
theorem untr {P:Program} {w:World} {H:Hp} {h:Heap} {b:Addr} (x:HOk P w H h) (n:h.get? b=none):H b=none:=by
 cases q:H b with
 | none=>rfl
 | some o =>
   have lt:=x.lt q
   cases z:h.get? b with
   | some o'=>rw [z] at n; cases n
   | none =>
     exfalso
     have:=(x b o q)
     cases o with
     | lst xs=>obtain ⟨_,_,_,_,e⟩:=this; rw [n] at e; cases e
     | tup xs=>obtain ⟨_,_,_,ob,e,_⟩:=this; rw [n] at e; cases e
     | dK kvs=>obtain ⟨_,_,_,_,ob,_,_,e,_⟩:=this; rw [n] at e; cases e
     | dT kvs=>obtain ⟨_,_,_,_,ob,_,_,e,_⟩:=this; rw [n] at e; cases e
     | set S m=>obtain ⟨ob,_,_,_,e,_⟩:=this; rw [n] at e; cases e
     | ins C dx fs=>obtain ⟨_,_,_,e,_⟩:=this; rw [n] at e; cases e
     | own y=>obtain ⟨_,e⟩:=this; rw [n] at e; cases e
     | xd fs=>obtain ⟨_,⟨_,_,_,e,_⟩,_⟩:=this; rw [n] at e; cases e
     | rng lo hi=>obtain ⟨_,_,_,e⟩:=this; rw [n] at e; cases e
     | frz ob u=>obtain ⟨e,_⟩:=this; rw [n] at e; cases e
     | tbl ps=>have e:h.get? b=some _:=this; rw [n] at e; cases e
     | met f y=>have e:h.get? b=some _:=this; rw [n] at e; cases e
     | ext φ=>obtain ⟨_,⟨_,e⟩,_⟩:=this; rw [n] at e; cases e
section
variable {P:Program} {w:World} {K:PySem.W.Frag} {mg:Str→Option Value} {base:Heap} {N:List Str} {qual:Str} {scope:Scope} {f:Addr} {cd:Value} {A:Around} {outer:List Env} {s:Shared} {H:Hp} {E:XK}
theorem un_leave {CX:CXT} {pins:List (Addr × Obj)} {σ:St} {H':Hp} {s':Shared} {h':Heap} {xs:List Addr} (J:Inv (cxOf CX P w K mg base N qual scope f cd A outer s H E) pins σ H' s') (k:Kept (frs (envOfC qual scope s.heap.objs.size f cd :: outer)) xs s'.heap h') (nx:∀ b∈xs,s.heap.get? b=none) :
   Un (frs outer) [] H H' s.heap h':=by
 have b0:Un (frs outer) [] H H' s.heap s'.heap:=J.base
 have nl:∀ b o,s.heap.get? b=some o→b ∉ xs:=fun b o e z=>by rw [nx b z] at e; cases e
 have nf:∀ b o,s.heap.get? b=some o→b ∉ frs outer→b ∉ frs (envOfC qual scope s.heap.objs.size f cd :: outer):=fun b o e z m=>by
   unfold frs at m z
   rw [List.filterMap_cons] at m
   have:(envOfC qual scope s.heap.objs.size f cd).frame=some s.heap.objs.size:=rfl
   rw [this] at m
   rcases List.mem_cons.mp m with m | m
   · exact absurd (Heap.lt_size e) (by rw [m]; exact Nat.lt_irrefl _)
   · exact z m
 refine ⟨fun b o e n hf hx=>k.keep b o (b0.keep b o e n hf hx) (nf b o e hf) (nl b o e),fun b o e n hf hx=>?_,b0.free,fun b o e hx=>?_,b0.tups,b0.frzs,b0.tbls⟩
 · obtain ⟨sl,e1⟩:=b0.slot b o e n hf hx
   by_cases m:b∈frs (envOfC qual scope s.heap.objs.size f cd :: outer)
   · obtain ⟨s2,e2⟩:=k.slot b _ e1 m (nl b o e)
     exact ⟨s2,e2⟩
   · exact ⟨sl,k.keep b _ e1 m (nl b o e)⟩
 · obtain ⟨o1,e1⟩:=b0.there b o e hx
   exact k.there b o1 e1
theorem inv_old {CX:CXT} {pins:List (Addr × Obj)} {σ:St} {H':Hp} {s':Shared} (J:Inv (cxOf CX P w K mg base N qual scope f cd A outer s H E) pins σ H' s') {b:Addr} (n:s'.heap.get? b=none):s.heap.get? b=none:=by
 cases q:s.heap.get? b with
 | none=>rfl
 | some o =>
   have b0:Un (frs outer) [] H H' s.heap s'.heap:=J.base
   obtain ⟨o',e⟩:=b0.there b o q (by simp)
   rw [n] at e
   cases e
theorem passX:Passes (CXe P w) (cxOf (CXe P w) P w K mg base N qual scope f cd A outer s H E) E:=by
 intro pins σ H1 s1 e s' I h
 obtain ⟨ea,T,cls,od,H',rfl,os,bare,un,hok,n1,n2,f1,f2,er,q⟩:=h
 have J:=I.call' (ch:=[]) os un hok bare (by simp)
 refine st_leave (base:=base) J.ok.frames J.stack rfl er fun h' T' er' k nT=>?_
 have fr:∀ b∈frs (envOfC qual scope s.heap.objs.size f cd :: outer),H' b=none:=J.stkFree
 refine ⟨ea,T',cls,od,H',rfl,J.os,J.bare,un_leave J k ?_,kept_hok hok k fr ?_,n1,untr hok nT,inv_old I f1,inv_old J nT,er',q⟩
 · intro b hb
   simp only [List.mem_cons,List.not_mem_nil,or_false] at hb
   rcases hb with rfl | rfl
   · exact inv_old I f1
   · exact inv_old I f2
 · intro b hb
   simp only [List.mem_cons,List.not_mem_nil,or_false] at hb
   rcases hb with rfl | rfl
   · exact n1
   · exact n2
end
def Raises (X:Cx) (E:XK):Prop:=∀ (pins:List (Addr × Obj)) (σ:St) (H:Hp) (s:Shared) (ea:Addr) (cls:Value) (od:Option Addr) (h':Heap) (tk:Nat),Inv X pins σ H s→(∀ b o,s.heap.get? b=some o→h'.get? b=some o)→s.heap.get? ea=none→ErrO h' ea cls od .none→E cls od H →
 X.xe (.ref ea) { s with heap:=h',toks:=tk }
section
variable {P:Program} {w:World} {K:PySem.W.Frag} {mg:Str→Option Value} {base:Heap} {N:List Str} {qual:Str} {scope:Scope} {f:Addr} {cd:Value} {A:Around} {outer:List Env} {s:Shared} {H:Hp} {E:XK}
theorem raisesX:Raises (cxOf (CXe P w) P w K mg base N qual scope f cd A outer s H E) E:=by
 intro pins σ H1 s1 ea cls od h' tk I kp nw er q
 have J:=I.kept (t':=tk) kp
 refine st_leave1 (base:=base) J.ok.frames J.stack rfl er fun h2 T' er' k nT=>?_
 have fr:∀ b∈frs (envOfC qual scope s.heap.objs.size f cd :: outer),H1 b=none:=J.stkFree
 refine ⟨ea,T',cls,od,H1,rfl,J.os,J.bare,un_leave J k ?_,kept_hok J.hok k fr ?_,untr I.hok nw,untr J.hok nT,inv_old I nw,inv_old J nT,er',q⟩
 · intro b hb
   rw [List.mem_singleton.mp hb]
   exact inv_old I nw
 · intro b hb
   rw [List.mem_singleton.mp hb]
   exact untr I.hok nw
end
end L2
set_option Elab.async false
set_option linter.all false
set_option maxRecDepth 100000
namespace L2
open PySem PySem.Spec PyProof.Rows
def XObj (K:PySem.W.Frag) (C:Addr):Prop:=∃ (nm qn:Str) (N:Addr) (bs bm:List Value) (hdct:Bool) (sn:List Str) (sub:List Value) (ab:Bool) (col:Option Bool) (dd:Option Addr) (k0 k1 k2 k3 k5:Option Value),
   K.lookup C=some (excClassObj nm qn C N bs bm hdct sn sub ab col dd k0 k1 k2 k3 k5 "ValueError.__new__")∧PySem.W.nsOkIn K N=true∧PySem.W.nsIn K N "__init__"=some none∧PySem.W.tailIn K bmV bm=true
theorem xobj_mk {K:PySem.W.Frag} {C:Addr} {o:Obj} (nm qn:Str) (N:Addr) (bs bm:List Value) (hdct:Bool) (sn:List Str) (sub:List Value) (ab:Bool) (col:Option Bool) (dd:Option Addr) (k0 k1 k2 k3 k5:Option Value) (l:K.lookup C=some o)
   (e:o=excClassObj nm qn C N bs bm hdct sn sub ab col dd k0 k1 k2 k3 k5 "ValueError.__new__") (a:PySem.W.nsOkIn K N=true) (b:PySem.W.nsIn K N "__init__"=some none) (c:PySem.W.tailIn K bmV bm=true):XObj K C:=by
 subst e
 exact ⟨_,_,_,_,_,_,_,_,_,_,_,_,_,_,_,_,l,a,b,c⟩
def tRaise (C:Addr) (E:XK) (t:TA):TS:=fun _ σ H=>t σ H fun vs H1=>vs.length≤sizeLine∧E (.ref C) none H1
section
variable {X:Cx} {x:Str} {np cpos pos:Pos} {e0:Expr} {es:List Expr} {t:TA} {C:Addr} {E:XK}
theorem ps_raise (q:XObj X.K C) (hc:X.calm=true) (hR:Raises X E) (hg:Gl X x) (hm:X.mg x=some (.ref C)) (ha:PA X (e0 :: es) t) (hdb:(x == ("__debug__":Str))=false:=by decide)
   (he:starEach (e0 :: es) X.env=(false,eval e0 X.env) :: starEach es X.env:=by rfl) (hpl:(backTo cpos (starEach es X.env)).any (·.1)=false:=by rfl):PS X (.Raise (some (.Call (.Name x np) (e0 :: es) [] cpos)) none pos) (tRaise C E t):=by
 intro pins s σ H D I h
 obtain ⟨nm,qn,N,bs,bm,hdct,sn,sub,ab,col,dd,k0,k1,k2,k3,k5,ho,z5,z6,z4⟩:=q
 have B:=I.mod.kin
 have T0:=PySem.W.tail_of_in B z4
 have N0:X.base.Ns N (X.base.nsMap N):=.of_isNs (PySem.W.isNs_of_in B z5)
 have hp:(backTo cpos (starEach (e0 :: es) X.env)).any (·.1)=false:=by
   rw [he]
   show (false || (backTo cpos (starEach es X.env)).any (·.1))=false
   rw [hpl]
   rfl
 refine wpAny_Raise_call_subT (C:=C) (nm:=nm) (q:=qn) (N:=N) (bs:=bs) (bm:=bm) (hdct:=hdct) (sn:=sn) (sub:=sub) (ab:=ab) (col:=col) (dd:=dd) (k0:=k0) (k1:=k1) (k2:=k2) (k3:=k3) (k5:=k5) PySem.F.excBase_ValueError
   (T0.hasType (by decide +kernel)) (I.ok.hd hc) hp (PySem.W.nsMap_none_of_in B z5 z6) (ld_glob I hg hm ⟨rfl,?_⟩ hdb)
 have g:=ha cpos pins s σ H _ I h
 rw [he] at g ⊢
 refine Calls.evalArgs_plain (thn g fun us s1 ⟨vs,H1,I1,r1,q1⟩=>⟨rfl,by show us.length≤_; rw [← r1.length]; exact q1.1,I1.bk _ _ (B _ _ ho),N0.keeps I1.bk,T0.keeps I1.bk,fun h' ea m=>?_⟩)
 obtain ⟨tt,m1,_,_⟩:=m.there
 exact hR pins σ H1 s1 ea (.ref C) none h' s1.toks I1 m.keeps m.new ⟨_,_,m1,rfl,rfl,rfl,rfl⟩ q1.2
end
section
variable {CX:CXT} {X:Cx} {k:Nat} {f C:Addr} {fd:FuncData} {ps:List Str} {sp:Sp} {dvs:List V} {ds:List Value} {x:Str} {p pos:Pos} {e:Expr} {es:List Expr} {te:TE} {t:TA} {st:Stmt} {sts:List Stmt} {ts:TS} {tx ux:(St→XK)→TS} {ex:XK→TE}
end
end L2
set_option Elab.async false
set_option linter.all false
set_option maxRecDepth 100000
namespace L2
open PySem PySem.Spec PyProof.Rows
section
variable {X:Cx} {pins:List (Addr × Obj)} {σ:St} {H:Hp} {s:Shared}
end
section
variable {K:PySem.W.Frag} {C C':Addr} {x:Addr} {ox:Obj} {od:Option Obj} {M:Model} {A:Around} {E:Value→Shared→Prop} {s:Shared} {b:Bool} {Q:Bool→Shared→Prop}
end
end L2
set_option Elab.async false
set_option linter.all false
set_option maxRecDepth 100000
namespace L2
open PySem PySem.Spec PyProof.Rows
def ExO (ea:Addr) (cls:Value) (od:Option Addr):HO:=.ext fun h=>∃ oe vs,h.get? ea=some oe∧oe.cls=cls∧oe.dict=od∧oe.data=.fields vs
section
variable {X:Cx} {pins:List (Addr × Obj)} {σ:St} {H:Hp} {s:Shared}
end
abbrev TH:=Ends→St→Value→Option Addr→Hp→Prop
def Ends.less (D:Ends) (i:Nat):Ends:={ nx:=fun σ H=>D.nx (σ.set i none) H,rt:=D.rt,bk:=fun σ H=>D.bk (σ.set i none) H,ct:=fun σ H=>D.ct (σ.set i none) H }
def tHand (K:PySem.W.Frag) (C':Addr) (i:Nat) (ts:TS) (tr:TH):TH:=fun D σ cls od H=>∃ C b,cls=.ref C∧PySem.W.mroIn K C (.ref C')=some b ∧
 if b=true then ∀ ea,H ea=none→ts (D.less i) (σ.set i (some (.ref ea))) (upd H ea (ExO ea cls od)) else tr D σ cls od H
section
variable {X:Cx} {x n:Str} {np pos:Pos} {i:Nat} {C':Addr} {b0:Stmt} {suite:List Stmt} {rest:List ExceptHandler} {ts:TS} {tr:TH}
def tTry (tb:(St→XK)→TS) (th:TH):TS:=fun D σ H=>tb (fun σ' cls od H'=>th D σ' cls od H') D σ H
end
end L2
set_option Elab.async false
set_option linter.all false
set_option maxRecDepth 100000
namespace L2
open PySem PySem.Spec PyProof.Rows
section
variable {P:Program} {w:World} {K:PySem.W.Frag} {mg:Str→Option Value} {base:Heap}
end
section
variable {X:Cx} {k:Nat} {f:Addr} {fd:FuncData} {ps:List Str} {sp:Sp} {x:Str} {p pos:Pos} {e:Expr} {es:List Expr} {t:TA}
end
section
variable {X:Cx}
end
def clOf (cells:List (Str × Addr)):List (Str × NameKind)→List (Str × Addr)→List (Str × Addr)
 | [],acc=>acc
 | (n,k) :: r,acc=>if k == .free then clOf cells r ((n,(cells.lookup n).getD 0) :: acc) else clOf cells r acc
theorem closure_of {scope:Scope} {env:Env} (h:∀ y∈scope.names,y.2=.free→(env.cells.lookup y.1).isSome=true):closureFor scope env=pure (clOf env.cells scope.names []):=by
 have key:∀ (l:List (Str × NameKind)) (acc:List (Str × Addr)),(∀ y∈l,y.2=.free→(env.cells.lookup y.1).isSome=true) →
     (forIn l acc fun (y:Str × NameKind) (c:List (Str × Addr))=>(if y.2 == NameKind.free then do let a ← cellOf env y.1; pure (ForInStep.yield ((y.1,a) :: c)) else pure (ForInStep.yield c):Sem (ForInStep (List (Str × Addr)))))=(pure (clOf env.cells l acc):Sem (List (Str × Addr))):=by
   intro l
   induction l with
   | nil=>intro acc _; rfl
   | cons y l ih =>
     obtain ⟨n,k⟩:=y
     intro acc hh
     have h1:=hh (n,k) List.mem_cons_self
     have h2:∀ y∈l,y.2=.free→(env.cells.lookup y.1).isSome=true:=fun y hy=>hh y (List.mem_cons_of_mem _ hy)
     rw [List.forIn_cons]
     unfold clOf
     cases q:k == NameKind.free with
     | false =>
       simp only [Bool.false_eq_true,if_false,pure_bind]
       exact ih acc h2
     | true =>
       obtain ⟨c,hc⟩:=Option.isSome_iff_exists.mp (h1 (by simpa using q))
       dsimp only at hc
       simp only [if_true,cellOf,hc,pure_bind,Option.getD_some]
       exact ih _ h2
 have:=key scope.names [] h
 unfold closureFor
 simp only [bind_pure]
 exact this
theorem clOf_sub {cells:List (Str × Addr)} {x:Str} {c:Addr}:∀ {l:List (Str × NameKind)} {acc:List (Str × Addr)},(∀ y∈l,y.2=.free→(cells.lookup y.1).isSome=true)→(∀ x c,acc.lookup x=some c→cells.lookup x=some c)→(clOf cells l acc).lookup x=some c→cells.lookup x=some c
 | [],acc,_,h2,h3=>h2 x c h3
 | (n,k) :: r,acc,h1,h2,h3=>by
   have h1':∀ y∈r,y.2=.free→(cells.lookup y.1).isSome=true:=fun y hy=>h1 y (List.mem_cons_of_mem _ hy)
   unfold clOf at h3
   cases q:k == NameKind.free with
   | false =>
     rw [q] at h3
     exact clOf_sub h1' h2 (by simpa using h3)
   | true =>
     rw [q] at h3
     simp only [if_true] at h3
     obtain ⟨a,ha⟩:=Option.isSome_iff_exists.mp (h1 (n,k) List.mem_cons_self (by simpa using q))
     dsimp only at ha
     rw [ha] at h3
     refine clOf_sub h1' (fun y d hy=>?_) h3
     rw [List.lookup_cons] at hy
     cases z:y == n with
     | true =>
       rw [z] at hy
       cases hy
       rw [eq_of_beq z]
       exact ha
     | false =>
       rw [z] at hy
       exact h2 y d hy
theorem clOf_has {cells:List (Str × Addr)} {x:Str}:∀ {l:List (Str × NameKind)} {acc:List (Str × Addr)},((∃ c,acc.lookup x=some c)∨(x,NameKind.free)∈l)→∃ c,(clOf cells l acc).lookup x=some c
 | [],acc,h=>by
   rcases h with h | h
   · exact h
   · cases h
 | (n,k) :: r,acc,h=>by
   unfold clOf
   cases q:k == NameKind.free with
   | false =>
     simp only [Bool.false_eq_true,if_false]
     refine clOf_has ?_
     rcases h with h | h
     · exact .inl h
     · rcases List.mem_cons.mp h with z | z
       · cases z
         simp at q
       · exact .inr z
   | true =>
     simp only [if_true]
     refine clOf_has ?_
     by_cases z:x=n
     · subst z
       exact .inl ⟨(cells.lookup x).getD 0,by rw [List.lookup_cons]; simp⟩
     · rcases h with ⟨c,h⟩ | h
       · refine .inl ⟨c,?_⟩
         rw [List.lookup_cons]
         have:(x == n)=false:=by simpa using z
         rw [this]
         exact h
       · rcases List.mem_cons.mp h with y | y
         · cases y
           exact absurd rfl z
         · exact .inr y
theorem relabel_lookup {env:Env} {x:Str} {k:NameKind}:∀ {l:List (Str × NameKind)},l.lookup x=some k →
   (l.map fun (n,k)=>if (k == NameKind.free && env.scope.kind == .function && env.kindOf n == some .cell) then (n,NameKind.cell) else (n,k)).lookup x=some (if (k == NameKind.free && env.scope.kind == .function && env.kindOf x == some .cell) then NameKind.cell else k)
 | [],h=>by simp at h
 | (n,j) :: r,h=>by
   have ih:=@relabel_lookup env x k r
   rw [List.map_cons]
   rw [List.lookup_cons] at h
   cases z:x == n with
   | true =>
     rw [z] at h
     cases h
     have e:=eq_of_beq z
     subst e
     by_cases q:(k == NameKind.free && env.scope.kind == .function && env.kindOf x == some .cell)=true
     · simp only [q,if_true,List.lookup_cons,z]
     · simp only [q,if_false,List.lookup_cons,z,Bool.false_eq_true]
   | false =>
     rw [z] at h
     dsimp only
     by_cases q:(j == NameKind.free && env.scope.kind == .function && env.kindOf n == some .cell)=true
     · rw [if_pos q,List.lookup_cons,z]
       exact ih h
     · rw [if_neg q,List.lookup_cons,z]
       exact ih h
theorem ct_clos {X:Cx} {Nc:List Str} {scope:Scope} (own:Nat) (js:List Nat) (hc:∀ y∈scope.names,y.2≠.cell) (hk:scope.kind=.function) (hn:∀ y∈scope.names,y.2=.local→scope.names.lookup y.1=some .local) (hl:Nc.length=own + js.length)
   (hf:∀ y∈scope.names,y.2=.free→X.env.scope.names.lookup y.1=some .cell) (hX:X.env.scope.kind=.function) (hcell:∀ x,X.env.scope.names.lookup x=some .cell→∃ c,X.env.cells.lookup x=some c)
   (hU:∀ i,i < js.length→∃ x j,Nc[own + i]?=some x∧js[i]?=some j∧X.N[j]?=some x∧scope.names.lookup x=some .free):CompTxt X Nc own js scope (clOf X.env.cells scope.names []):=by
 have hs:∀ y∈scope.names,y.2=.free→(X.env.cells.lookup y.1).isSome=true:=fun y hy e=>by
   obtain ⟨c,q⟩:=hcell _ (hf y hy e)
   rw [q]
   rfl
 have free_cell:∀ x,scope.names.lookup x=some .free→X.env.scope.names.lookup x=some .cell:=fun x h=>hf (x,.free) (PySem.mem_of_lookup h) rfl
 refine ⟨closure_of hs,hk,hc,hn,fun x c h=>clOf_sub hs (fun x c z=>by simp at z) h,fun x h=>?_,hl,fun i x h=>?_⟩
 · cases q:scope.names.lookup x with
   | none =>
     exfalso
     have:(relabel scope X.env).names.lookup x=none:=by
       unfold relabel
       dsimp only
       revert q
       generalize scope.names=l
       induction l with
       | nil=>intro _; rfl
       | cons y l ih =>
         obtain ⟨n,k⟩:=y
         intro q
         rw [List.lookup_cons] at q
         cases z:x == n with
         | true=>rw [z] at q; cases q
         | false =>
           rw [z] at q
           rw [List.map_cons]
           dsimp only
           by_cases w:(k == NameKind.free && X.env.scope.kind == .function && X.env.kindOf n == some .cell)=true
           · rw [if_pos w,List.lookup_cons,z]
             exact ih q
           · rw [if_neg w,List.lookup_cons,z]
             exact ih q
     rw [this] at h
     rcases h with h | h <;> cases h
   | some k =>
     have r:(relabel scope X.env).names.lookup x=some _:=relabel_lookup (env:=X.env) q
     cases k with
     | free=>exact clOf_has (.inr (PySem.mem_of_lookup q))
     | cell=>exact absurd rfl (hc _ (PySem.mem_of_lookup q))
     | _ =>
       rw [r] at h
       simp at h
 · have hi:i < js.length:=by
     have:=(List.getElem?_eq_some_iff.mp h).1
     omega
   obtain ⟨y,j,e1,e2,e3,e4⟩:=hU i hi
   rw [h] at e1
   cases e1
   have fc:=free_cell x e4
   refine ⟨j,e2,e3,fc,?_⟩
   have r:(relabel scope X.env).names.lookup x=some _:=relabel_lookup (env:=X.env) e4
   rw [r]
   have:X.env.kindOf x=some .cell:=fc
   rw [this,hX]
   rfl
end L2
set_option Elab.async false
set_option linter.all false
set_option maxRecDepth 100000
namespace L2
open PySem PySem.Spec PyProof.Rows
theorem ints_of:∀ {ns:List Int} {us:List Value},Vals (ns.map V.int) us→IntsAre us ns
 | [],_,h=>by cases h; exact .nil
 | n :: ns,_,h=>by
   cases h with
   | cons r t =>
     obtain ⟨k,rfl⟩:=(show ∃ t,_=Value.int n t from r)
     exact .cons n k (ints_of t)
theorem of_ints:∀ {ns:List Int} {us:List Value},IntsAre us ns→Vals (ns.map V.int) us
 | _,_,.nil=>.nil
 | _,_,.cons n t r=>.cons ⟨t,rfl⟩ (of_ints r)
section
variable {X:Cx}
theorem call_sorted:CallR X (.builtin "sorted") (fun xs H Q=>∃ (p:Addr) (ns:List Int),xs=[.ref p]∧SqL X.K H p (ns.map V.int)∧ns.length < 64∧∀ (l:Addr) (zs:List Int),H l=none→zs.Perm ns→zs.Pairwise (·≤·)→Q (.ref l) (upd H l (.lst (zs.map V.int)))):=by
 intro pins s σ H xs us Q I r h
 obtain ⟨p,ns,rfl,hp,h64,q⟩:=h
 obtain ⟨u,rfl,ru⟩:=vals1 r
 cases ru
 obtain ⟨its,rv,pl,hz⟩:=I.list hp
 have hi:=ints_of rv
 have e1:=IntsAre.length hi
 refine sorted_ints pl.isList hi (by omega) fun out zs a1 a2 a3=>?_
 obtain ⟨e,he⟩:=sortedAll_at s.heap its out
 have hn:H (s.heap.objs.size + 1)=none:=I.hok.fresh (Nat.le_succ _)
 have ln:zs.length=ns.length:=a2.length_eq
 refine ⟨.ref (s.heap.objs.size + 1),_,I.laid (a:=s.heap.objs.size + 1) (o:=.lst (zs.map V.int)) (t':=s.toks) (fun b o e=>sortedAll_old e) (Nat.le_succ _) ⟨?_,out.toList,e,of_ints a1,?_⟩,rfl,q _ zs hn a2 a3⟩
 · rw [List.length_map,ln]
   exact smallE (by omega)
 · exact he
end
section
variable {K:PySem.W.Frag} {T C:Addr} {c0:Value} {dd:Option Addr} {cd:ClassData} {sl:Array (Option Value)}
end
section
variable {P:Program} {w:World} {K:PySem.W.Frag} {mg:Str→Option Value} {base:Heap}
theorem Fun.okX {x qual:Str} {st:Stmt} {f:Addr} {fd:FuncData} {N ps:List Str} {k:Nat} {sp:Sp} (F:Fun K x qual st f fd) (S:FnScope N ps (defScope st)) (len:∀ vs H Q E,sp vs H Q E→vs.length=ps.length)
   (hbody:∀ (cdv:Value) (A:Around) (outer:List Env) (s:Shared) (H:Hp) (vs:List V) (Q:VK) (E:XK),Room k (A.deeper (envOfC qual (defScope st) s.heap.objs.size f cdv))→sp vs H Q E →
     ∃ t,PSs (cxOf (CXe P w) P w K mg base N qual (defScope st) f cdv A outer s H E) (defBody st) t∧t { nx:=fun _ H'=>Q .non H',rt:=Q } (start N vs) H):FnOk P w K mg base (CXe P w) (k + 1) f fd ps sp:=by
 obtain ⟨oc,od,kV,doc,pm,an,cdv,ct,osl,rfl,lk,hcd⟩:=F.ex
 exact fn_of lk hcd S len fun A outer s H vs Q E hr hsp=>hbody cdv A outer s H vs Q E hr hsp
end
theorem tRaise_eq {C:Addr} {E:XK} {t:TA} {D:Ends} {σ:St} {H:Hp}:tRaise C E t D σ H=t σ H fun vs H1=>vs.length≤sizeLine∧E (.ref C) none H1:=rfl
theorem tTry_eq {tb:(St→XK)→TS} {th:TH} {D:Ends} {σ:St} {H:Hp}:tTry tb th D σ H=tb (fun σ' cls od H'=>th D σ' cls od H') D σ H:=rfl
theorem tHand_eq {K:PySem.W.Frag} {C':Addr} {i:Nat} {ts:TS} {tr:TH} {D:Ends} {σ:St} {cls:Value} {od:Option Addr} {H:Hp}:tHand K C' i ts tr D σ cls od H=∃ C b,cls=.ref C∧PySem.W.mroIn K C (.ref C')=some b ∧
 if b=true then ∀ ea,H ea=none→ts (D.less i) (σ.set i (some (.ref ea))) (upd H ea (ExO ea cls od)) else tr D σ cls od H:=rfl
theorem catR {H:Hp} {l b:Addr} {xs zs:List V} {Q:VK} (h1:H l=some (.lst xs)) (h2:H b=some (.lst zs)) (hz:xs.length + zs.length≤sizeLine) (q:∀ p,H p=none→Q (.ref p) (upd H p (.lst (xs ++ zs)))):rCat (.ref l) (.ref b) H Q:=⟨l,b,xs,zs,rfl,rfl,h1,h2,hz,q⟩
theorem Same.put {H H':Hp} {l:Addr} (e:Same H H') (n:H l=none) (o:HO):Same H (upd H' l o):=fun b u h=>by rw [upd_ne (ne_of_none h n)]; exact e b u h
end L2
set_option Elab.async false
set_option linter.all false
set_option maxRecDepth 100000
namespace L2
open PySem PySem.Spec PyProof.Rows
theorem asg_name {M:Model} {A:Around} {E:Value→Shared→Prop} {s:Shared} {env:Env} {x:Str} {px:Pos} {v:Value} {Q:Unit→Shared→Prop} (h:wpAny M A (storeName env x v) Q E s):wpAny M A (assign (.Name x px) env v) Q E s:=by
 show wpAny M A (do standAt px; bindName env x v) Q E s
 exact wpAny_bind (wpAny_standAt (wpAny_bindName h))
section
variable {X:Cx} {Nc:List Str} {own:Nat} {js:List Nat} {scope:Scope} {cl:List (Str × Addr)}
theorem ps_setComp {i:Nat} {x:Str} {px pos:Pos} {elt target iter:Expr} {ifs:List Expr} {cpos:Pos} {wi:TI} {g:TG} {tc:TT} {te:TE} (hN:X.N.Nodup) (hxi:X.N[i]?=some x) (hxl:X.env.scope.names.lookup x=some .local) (hc:X.calm=true) (T:CompTxt X Nc own js scope cl)
   (hi:PI X target iter wi) (hg:∀ C s₂ H₁ fp,PG (X.comp Nc scope cl C s₂ H₁ fp) target g) (ht:∀ C s₂ H₁ fp,PTs (X.comp Nc scope cl C s₂ H₁ fp) ifs tc)
   (he:∀ C s₂ H₁ fp,PE (X.comp Nc scope cl C s₂ H₁ fp) elt te) (hs:∀ x,foldedSetIterable iter X.env x=pure x:=by intro _; rfl)
   (hsw:swapsWith (.ListComp elt [⟨target,iter,ifs,0⟩] scope cpos) (some (.Name x px)) pos.line X.env=pure true:=by rfl) :
   PS X (.Assign [.Name x px] (.ListComp elt [⟨target,iter,ifs,0⟩] scope cpos) pos) (tAsg (tComp own js wi g tc te) (gName i)):=by
 intro pins s σ H D I h
 rw [exec_Assign_Name_used _ _ _ _ hsw]
 refine wpAny_bind (wpAny_standAt (wpAny_bind ?_))
 rw [arm_evalThenUse_ListComp]
 refine wpAny_bind ?_
 refine wpAny_comprehension_free (use:=some (assign (.Name x px) X.env)) rfl hs T.clos T.kind T.names (thn (hi pins s σ H _ I h) fun v s1 h1=>thn h1 fun itv s2 h2=>?_)
 obtain ⟨it,fp,tn,J,H1,rfl,I1,Tn,st,f1,R⟩:=h2
 have hfp:∀ b∈fp,b < s2.heap.objs.size:=fun b hb=>let ⟨o,e,_⟩:=Tn.obj _ _ st b hb; Heap.lt_size e
 refine wpAny_newObj_type (wpAny_newFunctionEnv T.nocell (by intro y hy; simp at hy) (fun h₁ hns₁ hsb₁=>?_) T.kind)
 dsimp only at hns₁ hsb₁ ⊢
 generalize hH2:s2.heap.push { cls:=.type "list",dict:=none,data:=.seq ([]:List Value).toArray }=H2 at hns₁ hsb₁ ⊢
 have hC:H2.objs.size=s2.heap.objs.size + 1:=by rw [← hH2,Heap.size_push]
 have hDC:s2.heap.objs.size≠H2.objs.size:=by rw [hC]; exact Nat.ne_of_lt (Nat.lt_succ_self _)
 have hCle:s2.heap.objs.size≤H2.objs.size:=by rw [hC]; exact Nat.le_succ _
 have below:∀ b,b < s2.heap.objs.size→b≠H2.objs.size:=fun b hb=>by rw [hC]; exact Nat.ne_of_lt (Nat.lt_succ_of_lt hb)
 have old:∀ b o,s2.heap.get? b=some o→h₁.get? b=some o:=fun b o e=>hsb₁.extBut b o (below b (Heap.lt_size e)) (Heap.get?_push_of_some _ (hH2 ▸ Heap.get?_push_of_some _ e))
 have hacc:∃ n,h₁.get? s2.heap.objs.size=some { cls:=.type "list",data:=.seq ([]:List Value).toArray n }:=⟨_,hsb₁.extBut _ _ hDC (Heap.get?_push_of_some _ (hH2 ▸ Heap.get?_push_size _ rfl))⟩
 have st₁:tn 0 h₁:=Tn.keep _ _ _ st fun b _ o e=>old b o e
 obtain ⟨W,⟨m0,w0⟩,turn⟩:=R s2.heap.objs.size I1.fresh
 have Ic:=comp_inv (t:=s2.toks + ([]:List (Str × Value)).length) T I1 hCle (Nat.le_refl _) hDC f1 hfp old hns₁ hacc
 generalize hXc:X.comp Nc scope cl H2.objs.size s2 H1 fp=Xc at Ic
 have stat:∀ {H':Hp},(∀ b∈fp,H' b=none)→∀ b∈fp,FpOk Xc [] H' b:=fun {H'} hn b hb=>by
   subst hXc
   exact ⟨hn b hb,below b (hfp b hb),(comp_ok T I1 hCle f1 hfp).exfs b hb,.inl hb,fun x c e=>(f1 b hb).2.2.2.2.1 x c (T.cells x c e),fun p hp=>by cases hp⟩
 have fr0:∀ b∈fp,upd H1 s2.heap.objs.size (.lst []) b=none:=fun b hb=>by
   rw [upd_ne (Nat.ne_of_lt (hfp b hb))]
   exact (f1 b hb).1
 have calmc:Xc.calm=true:=by subst hXc; exact hc
 have loop:∀ s₃:Shared,s₃={ s2 with heap:=h₁,toks:=s2.toks + ([]:List (Str × Value)).length } →
     codeAny (model X.prog X.w) X.A (.compLoop (.ListComp elt [⟨target,iter,ifs,0⟩] scope cpos) 0 (.ref it) (.ref s2.heap.objs.size) (compEnvC scope cl H2.objs.size X.env))
       (compPost (model X.prog X.w) X.A X.xe (some (assign (.Name x px) X.env)) (fun _ s'=>wpAny (model X.prog X.w) X.A (pure ()) (fun _ s''=>wpAny (model X.prog X.w) X.A (pure Flow.next) (SP X pins D) X.xe s'') X.xe s') (.ref s2.heap.objs.size) H2.objs.size) s₃:=by
   rintro s₃ rfl
   refine compLoop_go (fun n s'=>∃ i ys σ' H',Inv Xc [] σ' H' s'∧tn i s'.heap∧(∀ b∈fp,H' b=none)∧W i n ys σ' H') ?_ m0 ⟨0,[],_,_,Ic,st₁,fr0,w0⟩
   rintro n s3 ⟨i,ys,σ3,H3,I3,st3,fr3,w3⟩
   rcases turn i n ys σ3 H3 w3 with ⟨stop,q⟩ | ⟨go,step⟩
   · subst hXc
     refine thn (Tn.done (X.comp Nc scope cl H2.objs.size s2 H1 fp) rfl rfl rfl hc i [] s3 σ3 H3 _ I3 (stat fr3) st3 stop) fun r s4 ⟨hr,I4⟩=>?_
     subst hr
     obtain ⟨m4,hn4,_⟩:=id I4.loc
     have J:=comp_back I1 hCle f1 I4 (h':=s4.heap) (Heap.SameBut.refl _ _)
     have cl0:H2.objs.size≠X.env.locals:=Nat.ne_of_gt (Nat.lt_of_lt_of_le I1.lt hCle)
     have cy:X.s₀.heap.objs.size≤H2.objs.size:=Nat.le_trans I1.sz hCle
     have cc:∀ y c,X.env.cells.lookup y=some c→c≠H2.objs.size:=fun y c e=>by
       obtain ⟨v',o',ho',_⟩:=I1.cell y c e
       exact Nat.ne_of_lt (Nat.lt_of_lt_of_le (Heap.lt_size ho') hCle)
     have cp:∀ p∈X.pn ++ pins,p.1≠H2.objs.size:=fun p hp=>by
       obtain ⟨ho',_⟩:=I1.pin p hp
       exact Nat.ne_of_lt (Nat.lt_of_lt_of_le (Heap.lt_size ho') hCle)
     refine asg_name (store_ok2 (v:=.ref s2.heap.objs.size) J hN hxi (.inl hxl) rfl (fun s5 I5 ⟨ad,sb,had⟩=>?_) (.inr hxl))
     have nad:H2.objs.size≠ad:=by
       rcases had with rfl | had
       · exact cl0
       · exact (cc _ _ had).symm
     obtain ⟨oo,es,ep,e1,e2⟩:=hn4
     refine ⟨m4,⟨oo,es,ep,(sb.2 _ nad).trans e1,e2⟩,fun h' hs'=>wpAny_pure (wpAny_pure ⟨_,H3,?_,q⟩)⟩
     exact I5.turned (it:=H2.objs.size) (t':=s5.toks) (fun b o n e=>hs'.extBut b o n e) I4.free cl0 (.inr cy) cc cp
   · subst hXc
     refine thn (Tn.item (X.comp Nc scope cl H2.objs.size s2 H1 fp) rfl rfl rfl hc i [] s3 σ3 H3 _ I3 (stat fr3) st3 go) fun r s4 ⟨u,hr,h4⟩=>?_
     subst hr
     refine thn h4 fun _ s5 ⟨x,H5,I5,r5,y5,st5,fr5⟩=>?_
     have I5':=I5.pinned (stat fr5) (Tn.obj _ _ st5)
     have back:∀ {σ7:St} {H7:Hp} {s7:Shared},Inv (X.comp Nc scope cl H2.objs.size s2 H1 fp) ([] ++ pinsAt fp s5.heap) σ7 H7 s7→Inv (X.comp Nc scope cl H2.objs.size s2 H1 fp) [] σ7 H7 s7∧tn (i + 1) s7.heap∧∀ b∈fp,H7 b=none:=fun {σ7 H7 s7} I7=>by
       refine ⟨I7.unpinned,Tn.keep _ _ _ st5 fun b hb o e=>(I7.pin (b,o) (List.mem_append_right _ (List.mem_append_right _ (mem_pinsAt hb e)))).1,fun b hb=>?_⟩
       obtain ⟨o,e,d⟩:=Tn.obj _ _ st5 b hb
       exact (I7.pin (b,o) (List.mem_append_right _ (List.mem_append_right _ (mem_pinsAt hb e)))).2.1
     refine thn (hg _ _ _ _ _ s5 σ3 H5 x u _ I5' r5 (step x H5 y5)) fun _ s6 ⟨σ6,H6,I6,q6⟩=>?_
     refine thnT (ht _ _ _ _ _ s6 σ6 H6 _ I6 q6) fun ok s7 H7 I7 q7=>?_
     cases ok with
     | false =>
       rw [if_neg Bool.false_ne_true] at q7 ⊢
       obtain ⟨m',hm,w7⟩:=q7
       obtain ⟨J1,J2,J3⟩:=back I7
       exact ⟨m',hm,i + 1,ys,σ6,H7,J1,J2,J3,w7⟩
     | true =>
       rw [if_pos rfl] at q7 ⊢
       refine thnE (he _ _ _ _ _ s7 σ6 H7 _ I7 q7) fun y s8 yv H8 I8 r8 ⟨hp8,hl8,m',hm,w8⟩=>?_
       refine thn (mt_append _ s8 σ6 H8 (.ref s2.heap.objs.size) [yv] _ [y] (fun v' H'=>W (i + 1) m' (ys ++ [yv]) σ6 H') I8 rfl (.cons r8 .nil) ⟨_,ys,yv,rfl,rfl,hp8,hl8,w8⟩) fun v9 s9 ⟨_,H9,I9,_,w9⟩=>?_
       obtain ⟨J1,J2,J3⟩:=back I9
       exact ⟨m',hm,i + 1,ys ++ [yv],σ6,H9,J1,J2,J3,w9⟩
 exact codeAny_compStart_list (loop _ rfl) (Tn.self _ 0 _ _ _ st₁ (loop _ rfl))
end
end L2
set_option Elab.async false
set_option linter.all false
set_option maxRecDepth 100000
namespace L2
open PySem PySem.Spec PyProof.Rows
end L2
set_option Elab.async false
set_option linter.all false
set_option maxRecDepth 100000
namespace Pb
open L2 PySem
def front (r:Int) (par:Int→Int) (p:Int):V:=if p=r then .non else .int (par p)
def kidsOf (m:Int) (rs:List Road) (fv:V) (p:Int):List Int:=(nbrs m rs p).filter fun v=>decide (V.int v≠fv)
variable {m:Int} {rs:List Road} {r:Int} {par:Int→Int} {dep:Int→Nat}
theorem Rooted.ne (R:Rooted m rs r par dep) {v:Int} (h0:0≤v) (h1:v < m) (hr:v≠r):par v≠v:=fun z=>by
 have:=(R.up v h0 h1 hr).2.2
 rw [z] at this
 omega
theorem mem_kids (g:Good m rs) (R:Rooted m rs r par dep) {p v:Int} (p0:0≤p) (p1:p < m):v∈kidsOf m rs (front r par p) p↔(0≤v∧v < m)∧v≠r∧par v=p:=by
 unfold kidsOf
 rw [List.mem_filter,mem_nbrs g,decide_eq_true_eq]
 constructor
 · rintro ⟨ad,hf⟩
   obtain ⟨_,hv,_⟩:=g.adj ad
   refine ⟨hv,?_⟩
   obtain ⟨x,hx,j⟩:=ad
   have key:∀ u w:Int,(u≠r∧par u=w)∨(w≠r∧par w=u)→u=p→w=v→v≠r∧par v=p:=fun u w h e1 e2=>by
     subst e1 e2
     rcases h with h | h
     · exfalso
       apply hf
       unfold front
       rw [if_neg h.1,h.2]
     · exact h
   rcases j with ⟨a,b⟩ | ⟨a,b⟩
   · exact key x.a x.b (R.road x hx) a b
   · exact key x.b x.a (R.road x hx).symm a b
 · rintro ⟨hv,hr,hp⟩
   have u:=R.up v hv.1 hv.2 hr
   rw [hp] at u
   refine ⟨?_,fun z=>?_⟩
   · obtain ⟨x,hx,j⟩:=u.2.1
     exact ⟨x,hx,j.elim (fun q=>.inr ⟨q.2,q.1⟩) (fun q=>.inl ⟨q.2,q.1⟩)⟩
   · unfold front at z
     by_cases c:p=r
     · rw [if_pos c] at z; cases z
     · rw [if_neg c] at z
       have e:v=par p:=by injection z
       have w:=(R.up p p0 p1 c).2.2
       have w2:=u.2.2
       rw [← e] at w
       omega
theorem kids_nodup {fv:V} {p:Int}:(kidsOf m rs fv p).Nodup:=(nbrs_nodup m rs p).filter _
def nl (m:Int) (par:Int→Int) (ks:List Int):List V:=(below m.toNat).map fun v=>if v∈ks then .int (par v) else .non
def parL (m r:Int) (par:Int→Int):List V:=(below m.toNat).map (front r par)
theorem nl_length {ks:List Int}:(nl m par ks).length=m.toNat:=by unfold nl; rw [List.length_map,below_length]
theorem below_get {n i:Nat} (h:i < n):(below n)[i]?=some (i:Int):=by unfold below; rw [List.getElem?_map,List.getElem?_range h]; rfl
theorem nl_get {ks:List Int} {v:Int} (h0:0≤v) (h1:v < m):(nl m par ks)[v.toNat]?=some (if v∈ks then .int (par v) else .non):=by
 unfold nl
 rw [List.getElem?_map,below_get (by omega)]
 show some (if ((v.toNat:Nat):Int)∈ks then V.int (par ((v.toNat:Nat):Int)) else V.non)=_
 rw [Int.toNat_of_nonneg h0]
theorem nl_set {ks:List Int} {v:Int} (h0:0≤v) (h1:v < m):(nl m par ks).set v.toNat (.int (par v))=nl m par (ks ++ [v]):=by
 refine List.ext_getElem? fun i=>?_
 rw [List.getElem?_set]
 by_cases c:i < m.toNat
 · have e:∀ l:List Int,(nl m par l)[i]?=some (if (i:Int)∈l then .int (par (i:Int)) else .non):=fun l=>by
     have:=nl_get (par:=par) (ks:=l) (v:=(i:Int)) (m:=m) (by omega) (by omega)
     rwa [Int.toNat_natCast] at this
   rw [e,nl_length]
   by_cases z:v.toNat=i
   · have z2:v=(i:Int):=by omega
     rw [if_pos z,if_pos (by omega),e,if_pos (by rw [z2]; simp),← z2]
   · rw [if_neg z,e]
     have z2:¬ ((i:Int)=v):=by omega
     simp [z2]
 · have e:∀ l:List Int,(nl m par l)[i]?=none:=fun l=>List.getElem?_eq_none (by rw [nl_length]; omega)
   rw [e,e,nl_length]
   by_cases z:v.toNat=i
   · omega
   · rw [if_neg z]
structure AInv (m:Int) (rs:List Road) (r:Int) (par:Int→Int) (ks ws:List Int):Prop where
 nd:ks.Nodup
 rng:∀ k∈ks,0≤k∧k < m
 nr:r ∉ ks
 sub:∀ w∈ws,w=r∨w∈ks
 wnd:ws.Nodup
 ok:∀ v∈ks,par v ∉ ws∧(par v=r∨par v∈ks)
 dn:∀ v,0≤v→v < m→v≠r→(par v=r∨par v∈ks)→par v ∉ ws→v∈ks
theorem AInv.start:AInv m rs r par [] [r] where
 nd:=List.nodup_nil
 rng:=fun _ h=>by cases h
 nr:=fun h=>by cases h
 sub:=fun w h=>.inl (List.mem_singleton.mp h)
 wnd:=by simp
 ok:=fun _ h=>by cases h
 dn:=fun v _ _ _ h n=>by
   rcases h with h | h
   · exact absurd (by rw [h]; simp) n
   · cases h
theorem AInv.at_ (J:AInv m rs r par ks ws) (r0:0≤r) (r1:r < m) {p:Int} (hp:p∈ws):0≤p∧p < m:=by
 rcases J.sub p hp with h | h
 · rw [h]; exact ⟨r0,r1⟩
 · exact J.rng p h
theorem AInv.front (J:AInv m rs r par ks ws) {p:Int} (hp:p∈ws):(if p∈ks then V.int (par p) else V.non)=front r par p:=by
 unfold Pb.front
 by_cases c:p=r
 · rw [if_pos c,if_neg (by rw [c]; exact J.nr)]
 · rw [if_neg c,if_pos ((J.sub p hp).resolve_left c)]
theorem AInv.step (g:Good m rs) (R:Rooted m rs r par dep) (r0:0≤r) (r1:r < m) {ks ws ws':List Int} {p:Int} (J:AInv m rs r par ks ws) (e:ws.Perm (p :: ws')):AInv m rs r par (ks ++ kidsOf m rs (Pb.front r par p) p) (ws' ++ kidsOf m rs (Pb.front r par p) p):=by
 have hp:p∈ws:=e.mem_iff.mpr List.mem_cons_self
 have pr:=J.at_ r0 r1 hp
 have mk:∀ v,v∈kidsOf m rs (Pb.front r par p) p↔(0≤v∧v < m)∧v≠r∧par v=p:=fun v=>mem_kids g R pr.1 pr.2
 have nk:(kidsOf m rs (Pb.front r par p) p).Nodup:=kids_nodup
 generalize kidsOf m rs (Pb.front r par p) p=kk at mk nk ⊢
 have dis:∀ v∈kk,v ∉ ks:=fun v hv z=>(J.ok v z).1 (by rw [((mk v).mp hv).2.2]; exact hp)
 obtain ⟨n1,n2⟩:=List.nodup_cons.mp (e.nodup_iff.mp J.wnd)
 have sw:∀ w∈ws',w∈ws:=fun w hw=>e.mem_iff.mpr (List.mem_cons_of_mem _ hw)
 refine ⟨?_,?_,?_,?_,?_,?_,?_⟩
 · rw [List.nodup_append]
   exact ⟨J.nd,nk,fun a ha b hb z=>dis b hb (z ▸ ha)⟩
 · intro k hk
   rcases List.mem_append.mp hk with h | h
   · exact J.rng k h
   · exact ((mk k).mp h).1
 · intro z
   rcases List.mem_append.mp z with h | h
   · exact J.nr h
   · exact ((mk r).mp h).2.1 rfl
 · intro w hw
   rcases List.mem_append.mp hw with h | h
   · exact (J.sub w (sw w h)).imp id (List.mem_append_left _)
   · exact .inr (List.mem_append_right _ h)
 · rw [List.nodup_append]
   refine ⟨n2,nk,fun a ha b hb z=>?_⟩
   subst z
   rcases J.sub a (sw a ha) with h | h
   · exact ((mk a).mp hb).2.1 h
   · exact dis a hb h
 · intro v hv
   rcases List.mem_append.mp hv with h | h
   · obtain ⟨o1,o2⟩:=J.ok v h
     refine ⟨fun z=>?_,o2.imp id (List.mem_append_left _)⟩
     rcases List.mem_append.mp z with z | z
     · exact o1 (sw _ z)
     · rcases o2 with o | o
       · exact ((mk _).mp z).2.1 o
       · exact dis _ z o
   · obtain ⟨q1,q2,q3⟩:=(mk v).mp h
     rw [q3]
     refine ⟨fun z=>?_,(J.sub p hp).imp id (List.mem_append_left _)⟩
     rcases List.mem_append.mp z with z | z
     · exact n1 z
     · obtain ⟨w1,w2,w3⟩:=(mk p).mp z
       exact R.ne w1.1 w1.2 w2 w3
 · intro v v0 v1 vr h n
   have nk2:par v ∉ kk:=fun z=>n (List.mem_append_right _ z)
   have h':par v=r∨par v∈ks:=h.imp id fun z=>(List.mem_append.mp z).resolve_right nk2
   by_cases c:par v=p
   · exact List.mem_append_right _ ((mk v).mpr ⟨⟨v0,v1⟩,vr,c⟩)
   · refine List.mem_append_left _ (J.dn v v0 v1 vr h' fun z=>?_)
     rcases List.mem_cons.mp (e.mem_iff.mp z) with z | z
     · exact c z
     · exact n (List.mem_append_left _ z)
theorem AInv.perm {ks ws ws2:List Int} (J:AInv m rs r par ks ws) (e:ws.Perm ws2):AInv m rs r par ks ws2 where
 nd:=J.nd
 rng:=J.rng
 nr:=J.nr
 sub:=fun w h=>J.sub w (e.mem_iff.mpr h)
 wnd:=e.nodup_iff.mp J.wnd
 ok:=fun v h=>⟨fun z=>(J.ok v h).1 (e.mem_iff.mpr z),(J.ok v h).2⟩
 dn:=fun v h0 h1 hr h n=>J.dn v h0 h1 hr h fun z=>n (e.mem_iff.mp z)
theorem AInv.all (R:Rooted m rs r par dep) {ks:List Int} (J:AInv m rs r par ks []):∀ v,0≤v→v < m→v≠r→v∈ks:=by
 have key:∀ n v,dep v=n→0≤v→v < m→v≠r→v∈ks:=by
   intro n
   induction n with
   | zero =>
     intro v e v0 v1 vr
     have:=(R.up v v0 v1 vr).2.2
     omega
   | succ n ih =>
     intro v e v0 v1 vr
     have u:=R.up v v0 v1 vr
     refine J.dn v v0 v1 vr ?_ (by simp)
     by_cases c:par v=r
     · exact .inl c
     · exact .inr (ih (par v) (by omega) u.1.1 u.1.2 c)
 exact fun v=>key _ v rfl
theorem AInv.done (R:Rooted m rs r par dep) {ks:List Int} (J:AInv m rs r par ks []):nl m par ks=parL m r par:=by
 unfold nl parL
 refine List.map_congr_left fun v hv=>?_
 have hv':0≤v∧v < m:=by
   unfold below at hv
   obtain ⟨k,hk,rfl⟩:=List.mem_map.mp hv
   have:=List.mem_range.mp hk
   omega
 unfold Pb.front
 by_cases c:v=r
 · rw [if_pos c,if_neg (by rw [c]; exact J.nr)]
 · rw [if_neg c,if_pos (J.all R v hv'.1 hv'.2 c)]
theorem rep_flat (n:Nat) (v:V):(List.replicate n [v]).flatten=List.replicate n v:=by
 induction n with
 | zero=>rfl
 | succ n ih=>rw [List.replicate_succ,List.flatten_cons,ih,List.replicate_succ]; rfl
theorem nl_nil:nl m par []=List.replicate m.toNat V.non:=by
 unfold nl
 refine List.ext_getElem? fun i=>?_
 by_cases c:i < m.toNat
 · rw [List.getElem?_map,below_get c,List.getElem?_replicate,if_pos c]
   simp
 · rw [List.getElem?_eq_none (by rw [List.length_map,below_length]; omega),List.getElem?_eq_none (by rw [List.length_replicate]; omega)]
def stepsUp (par:Int→Int):Nat→Int→List Int
 | 0,v=>[v]
 | n + 1,v=>v :: stepsUp par n (par v)
theorem Rooted.pos (R:Rooted m rs r par dep) {v:Int} (h0:0≤v) (h1:v < m) (hr:v≠r):dep v=dep (par v) + 1:=(R.up v h0 h1 hr).2.2.symm
theorem stepsUp_ok (R:Rooted m rs r par dep):∀ (n:Nat) (v:Int),dep v=n→0≤v→v < m→(stepsUp par n v).Nodup∧(∀ x∈stepsUp par n v,(0≤x∧x < m)∧dep x≤n)∧(stepsUp par n v).length=n + 1
 | 0,v,e,h0,h1=>⟨by unfold stepsUp; simp,fun x hx=>by
     unfold stepsUp at hx
     rw [List.mem_singleton.mp hx]
     exact ⟨⟨h0,h1⟩,by omega⟩,rfl⟩
 | n + 1,v,e,h0,h1=>by
   have hr:v≠r:=fun z=>by rw [z,R.root] at e; omega
   have u:=R.up v h0 h1 hr
   obtain ⟨i1,i2,i3⟩:=stepsUp_ok R n (par v) (by omega) u.1.1 u.1.2
   unfold stepsUp
   refine ⟨List.nodup_cons.mpr ⟨fun z=>?_,i1⟩,fun x hx=>?_,by rw [List.length_cons,i3]⟩
   · have:=(i2 v z).2
     omega
   · rcases List.mem_cons.mp hx with rfl | hx
     · exact ⟨⟨h0,h1⟩,by omega⟩
     · exact ⟨(i2 x hx).1,by have:=(i2 x hx).2; omega⟩
theorem dep_lt (R:Rooted m rs r par dep) {v:Int} (h0:0≤v) (h1:v < m):dep v + 1≤m.toNat:=by
 obtain ⟨i1,i2,i3⟩:=stepsUp_ok R _ v rfl h0 h1
 have:=nodup_len (m:=m) (by omega) i1 fun x hx=>(i2 x hx).1
 omega
theorem parL_get {v:Int} (h0:0≤v) (h1:v < m):(parL m r par)[v.toNat]?=some (front r par v):=by
 unfold parL
 rw [List.getElem?_map,below_get (by omega)]
 show some (front r par ((v.toNat:Nat):Int))=_
 rw [Int.toNat_of_nonneg h0]
theorem toll_up (g:Good m rs) (R:Rooted m rs r par dep) {v:Int} (h0:0≤v) (h1:v < m) (hr:v≠r):∃ k,tollOf rs v (par v)=some k∧2≤k∧k≤1000000:=by
 obtain ⟨x,hx,j⟩:=(R.up v h0 h1 hr).2.1
 obtain ⟨i,hi⟩:=List.getElem?_of_mem hx
 have ok:=g.ok x hx
 rw [tollOf_at g hi j]
 unfold toll1
 by_cases c:x.a=v∧x.b=par v
 · rw [if_pos c]
   exact ⟨_,rfl,ok.t0,ok.t1⟩
 · rw [if_neg c]
   have c2:x.a=par v∧x.b=v:=by
     rcases j with j | j
     · exact absurd j c
     · exact ⟨j.2,j.1⟩
   rw [if_pos c2]
   exact ⟨_,rfl,ok.u0,ok.u1⟩
def preU (m:Int) (rs:List Road) (r:Int) (par:Int→Int):Nat→Int→List Int
 | 0,v=>[v]
 | n + 1,v=>v :: (kidsOf m rs (front r par v) v).flatMap (preU m rs r par n)
def preL (m:Int) (rs:List Road) (r:Int) (par:Int→Int) (dep:Int→Nat) (v:Int):List Int:=preU m rs r par (m.toNat - 1 - dep v) v
theorem flatMap_congr' {f h:Int→List Int}:∀ {l:List Int},(∀ x∈l,f x=h x)→l.flatMap f=l.flatMap h
 | [],_=>rfl
 | a :: l,e=>by rw [List.flatMap_cons,List.flatMap_cons,e a List.mem_cons_self,flatMap_congr' fun x hx=>e x (List.mem_cons_of_mem _ hx)]
theorem preL_step (g:Good m rs) (R:Rooted m rs r par dep) {v:Int} (h0:0≤v) (h1:v < m):preL m rs r par dep v=v :: (kidsOf m rs (front r par v) v).flatMap (preL m rs r par dep):=by
 have mk:∀ u,u∈kidsOf m rs (front r par v) v→(0≤u∧u < m)∧u≠r∧par u=v:=fun u=>(mem_kids g R h0 h1).mp
 have du:∀ u∈kidsOf m rs (front r par v) v,dep u=dep v + 1∧dep u + 1≤m.toNat:=fun u hu=>by
   obtain ⟨w1,w2,w3⟩:=mk u hu
   have:=R.pos w1.1 w1.2 w2
   rw [w3] at this
   exact ⟨this,dep_lt R w1.1 w1.2⟩
 unfold preL
 cases e:m.toNat - 1 - dep v with
 | zero =>
   have:kidsOf m rs (front r par v) v=[]:=List.eq_nil_iff_forall_not_mem.mpr fun u hu=>by
     have:=du u hu
     omega
   rw [this]
   rfl
 | succ n =>
   show v :: (kidsOf m rs (front r par v) v).flatMap (preU m rs r par n)=_
   rw [flatMap_congr' fun u hu=>show preU m rs r par n u=preU m rs r par (m.toNat - 1 - dep u) u by rw [show m.toNat - 1 - dep u=n by have:=du u hu; omega]]
def up (par:Int→Int):Nat→Int→Int
 | 0,x=>x
 | k + 1,x=>par (up par k x)
theorem nodup_flat {f:Int→List Int}:∀ {l:List Int},l.Nodup→(∀ u∈l,(f u).Nodup)→(∀ u∈l,∀ w∈l,∀ x,x∈f u→x∈f w→u=w)→(l.flatMap f).Nodup
 | [],_,_,_=>by simp
 | a :: l,n,h1,h2=>by
   obtain ⟨n1,n2⟩:=List.nodup_cons.mp n
   rw [List.flatMap_cons,List.nodup_append]
   refine ⟨h1 a List.mem_cons_self,nodup_flat n2 (fun u hu=>h1 u (List.mem_cons_of_mem _ hu)) (fun u hu w hw=>h2 u (List.mem_cons_of_mem _ hu) w (List.mem_cons_of_mem _ hw)),fun x hx y hy z=>?_⟩
   subst z
   obtain ⟨w,hw,hxw⟩:=List.mem_flatMap.mp hy
   have:=h2 a List.mem_cons_self w (List.mem_cons_of_mem _ hw) x hx hxw
   exact n1 (this ▸ hw)
theorem preU_ok (g:Good m rs) (R:Rooted m rs r par dep):∀ (n:Nat) (v:Int),0≤v→v < m→(preU m rs r par n v).Nodup∧∀ x∈preU m rs r par n v,(0≤x∧x < m)∧∃ k,dep x=dep v + k∧up par k x=v
 | 0,v,h0,h1=>⟨by unfold preU; simp,fun x hx=>by
     unfold preU at hx
     rw [List.mem_singleton.mp hx]
     exact ⟨⟨h0,h1⟩,0,rfl,rfl⟩⟩
 | n + 1,v,h0,h1=>by
   have mk:∀ u,u∈kidsOf m rs (front r par v) v→(0≤u∧u < m)∧u≠r∧par u=v:=fun u=>(mem_kids g R h0 h1).mp
   have nk:(kidsOf m rs (front r par v) v).Nodup:=kids_nodup
   have ih:=fun u hu=>preU_ok g R n u (mk u hu).1.1 (mk u hu).1.2
   have du:∀ u∈kidsOf m rs (front r par v) v,dep u=dep v + 1:=fun u hu=>by
     obtain ⟨w1,w2,w3⟩:=mk u hu
     have:=R.pos w1.1 w1.2 w2
     rw [w3] at this
     exact this
   unfold preU
   refine ⟨List.nodup_cons.mpr ⟨fun z=>?_,nodup_flat nk (fun u hu=>(ih u hu).1) fun u hu w hw x hx hy=>?_⟩,fun x hx=>?_⟩
   · obtain ⟨u,hu,hv⟩:=List.mem_flatMap.mp z
     obtain ⟨_,k,e,_⟩:=(ih u hu).2 v hv
     have:=du u hu
     omega
   · obtain ⟨_,k1,e1,f1⟩:=(ih u hu).2 x hx
     obtain ⟨_,k2,e2,f2⟩:=(ih w hw).2 x hy
     have d1:=du u hu
     have d2:=du w hw
     have:k1=k2:=by omega
     rw [← f1,← f2,this]
   · rcases List.mem_cons.mp hx with rfl | hx
     · exact ⟨⟨h0,h1⟩,0,rfl,rfl⟩
     · obtain ⟨u,hu,hv⟩:=List.mem_flatMap.mp hx
       obtain ⟨xr,k,e,f⟩:=(ih u hu).2 x hv
       exact ⟨xr,k + 1,by rw [e,du u hu]; omega,by show par (up par k x)=v; rw [f]; exact (mk u hu).2.2⟩
theorem preL_len (g:Good m rs) (R:Rooted m rs r par dep) {v:Int} (h0:0≤v) (h1:v < m):(preL m rs r par dep v).length≤24:=by
 obtain ⟨n1,n2⟩:=preU_ok g R (m.toNat - 1 - dep v) v h0 h1
 have:=nodup_len (m:=m) (by omega) n1 fun x hx=>(n2 x hx).1
 have:=g.m24
 unfold preL
 omega
end Pb
set_option Elab.async false
set_option linter.all false
set_option maxRecDepth 100000
namespace L2
open PySem PySem.Spec PyProof.Rows
def Itv (K:PySem.W.Frag) (a:Addr) (n:Nat):It :=
 ⟨fun i H=>i < n∧∃ xs x,SqL K H a xs∧xs[n - 1 - i]?=some x,fun i H x H'=>H'=H∧∀ xs,SqL K H a xs→xs[n - 1 - i]?=some x,fun i H=>n≤i⟩
theorem turn_rev {P:Program} {w:World} {K:PySem.W.Frag} {tg:Expr} (a it:Addr) (n:Nat):Turn P w K tg (Itv K a n) [it] it (fun i h=>i≤n∧h.IsRevIter it a ((n:Int) - 1 - (i:Int))) where
 mem:=by simp
 obj:=fun i h st b hb=>by
   have e:b=it:=by simpa using hb
   subst e
   obtain ⟨_,o,e,c,d⟩:=st
   exact ⟨o,e,fun v z=>by rw [d] at z; cases z⟩
 keep:=fun i h h' st k=>⟨st.1,st.2.at fun o e=>k it (by simp) o e⟩
 item:=by
   intro X hP hw hK hc i pins s σ H E I hf st hg
   subst hP hw hK
   obtain ⟨hi,xs,x,hq,hx⟩:=hg
   obtain ⟨its,rv,p,hz⟩:=I.list hq
   obtain ⟨u,hu,ru⟩:=rv.get hx
   obtain ⟨f0,f1,f2,f3,f4,f5⟩:=hf it (by simp)
   have e0:(n:Int) - 1 - (i:Int)=((n - 1 - i:Nat):Int):=by omega
   have st2:=st.2
   rw [e0] at st2
   refine wpAny_pyNext_rev_item st2 p.isList (x:=u) (by simpa using hu) fun h' st' sb=>?_
   have I1:Inv X pins σ H { s with heap:=h' }:=I.turned (t':=s.toks) (fun b o hb e=>(sb.2 b hb).trans e) f0 f1 f3 f4 f5
   obtain ⟨o,e,c,d⟩:=id st'
   have e1:((n - 1 - i:Nat):Int) - 1=(n:Int) - 1 - ((i + 1:Nat):Int):=by omega
   rw [e1] at st'
   exact ⟨u,rfl,go_of (s:={ s with heap:=h' }) e c d (by decide) ⟨x,H,I1,ru,⟨rfl,fun ys hy=>by rw [I.list_inj hy hq]; exact hx⟩,⟨hi,st'⟩,fun b hb=>(hf b hb).1⟩⟩
 done:=by
   intro X hP hw hK hc i pins s σ H E I hf st hg
   subst hP hw hK
   have hg':n≤i:=hg
   obtain ⟨f0,f1,f2,f3,f4,f5⟩:=hf it (by simp)
   have st2:=st.2
   have st1:=st.1
   rw [show (n:Int) - 1 - (i:Int)=-1 by omega] at st2
   exact wpAny_pyNext_rev_end (I.ok.hd hc) st2 fun h' eb=>⟨rfl,I.turned (t':=s.toks) (fun b o hb e=>eb b o hb e) f0 f1 f3 f4 f5⟩
 self:=fun _ _ _ _ _ st h=>wpAny_pyIter_revIter st.2 h
def iRev (K:PySem.W.Frag) (tl:TE):TI:=fun σ H R=>tl σ H fun x H1=>∃ a xs,x=.ref a∧SqL K H1 a xs∧R (Itv K a xs.length) H1
section
variable {X:Cx} {tg e:Expr} {te:TE} {p2 pos:Pos}
theorem pi_rev (hg:Gl X "reversed") (hm:X.mg "reversed"=none) (he:PE X e te) (h2:starEach [e] X.env=[(false,eval e X.env)]:=by rfl):PI X tg (.Call (.Name "reversed" p2) [e] [] pos) (iRev X.K te):=by
 intro pins s σ H R I h
 refine Call_ (ld_blt I hg hm boot_reversed (PyProof.Rows.callWith_type1 ?_ h2 rfl))
 rw [h2]
 show wpAny _ _ (spliced ((false,eval e X.env) :: backTo pos [])) _ _ s
 refine Calls.spliced_cons (thnE (he pins s σ H _ I h) fun u s1 x H1 I1 r1 q1=>Calls.spliced_nil ?_)
 obtain ⟨a,ys,ex,sa,q⟩:=q1
 subst ex
 cases r1
 obtain ⟨its,rv,pl,hz⟩:=I1.list sa
 refine call_reversed_list pl.isList ?_
 have sz:its.toArray.size=ys.length:=by rw [List.size_toArray,rv.length]
 rw [sz]
 refine wpAny_pyIter_revIter (i:=(ys.length:Int) - 1) (l:=a) ⟨_,Heap.get?_push_size _ rfl,rfl,rfl⟩ ?_
 refine ⟨s1.heap.objs.size,[s1.heap.objs.size],_,_,H1,rfl,I1.kept (t':=s1.toks) fun b o e=>Heap.get?_push_of_some _ e,turn_rev a _ ys.length,⟨Nat.zero_le _,?_⟩,fun b hb=>?_,q⟩
 · exact ⟨_,Heap.get?_push_size _ rfl,rfl,by simp [revObj]⟩
 · have e:b=s1.heap.objs.size:=by simpa using hb
   subst e
   exact I1.fpOk (Nat.le_refl _) (I1.hok.fresh (Nat.le_refl _))
end
theorem for_revN {K:PySem.W.Frag} {a:Addr} {xs:List V} {g:TG} {tb:TS} {D:Ends} {σ:St} {H:Hp} (Pv:Nat→St→Hp→Prop) (h0:Pv 0 σ H) (hl:∀ i σ H,i≤xs.length→Pv i σ H→SqL K H a xs)
   (hs:∀ (i:Nat) (x:V) (σ:St) (H:Hp) (N:St→Hp→Prop),(∀ σ' H',Pv (i + 1) σ' H'→N σ' H')→xs.reverse[i]?=some x→Pv i σ H→g x σ H fun σ2 H2=>tb { D with nx:=N,ct:=N,bk:=D.nx } σ2 H2) (hd:∀ σ H,Pv xs.length σ H→D.nx σ H) :
   ForGo (Itv K a xs.length) D g tb σ H:=by
 refine ⟨fun i m σ H=>m=xs.length - i∧i≤xs.length∧Pv i σ H,⟨xs.length,by simp,Nat.zero_le _,h0⟩,?_⟩
 rintro i m σ H ⟨rfl,hi,p⟩
 have q:=hl i σ H hi p
 by_cases hlt:i < xs.length
 · have hx:xs[xs.length - 1 - i]?=some xs[xs.length - 1 - i]:=List.getElem?_eq_getElem (by omega)
   refine .inr ⟨⟨hlt,xs,_,q,hx⟩,fun σ' H'=>∃ m',m' < xs.length - i∧(m'=xs.length - (i + 1)∧i + 1≤xs.length∧Pv (i + 1) σ' H'),fun σ' H' z=>z,fun x H' y=>?_⟩
   obtain ⟨e,y⟩:=y
   subst e
   exact hs i x σ _ _ (fun σ' H' p'=>⟨xs.length - (i + 1),by omega,rfl,hlt,p'⟩) (by rw [List.getElem?_reverse hlt]; exact y xs q) p
 · have e:i=xs.length:=by omega
   subst e
   exact .inl ⟨Nat.le_refl _,hd σ H p⟩
end L2
set_option Elab.async false
set_option linter.all false
set_option maxRecDepth 100000
namespace L2
open PySem PySem.Spec PyProof.Rows
def tListR (te:TE):TE:=fun σ H Q=>te σ H fun x H1=>∃ i,x=.int i∧0≤i∧i≤100000∧∀ l,H1 l=none→Q (.ref l) (upd H1 l (.lst ((Pb.below i.toNat).map V.int)))
section
variable {X:Cx} {e:Expr} {te:TE} {p1 p2 pos pos2:Pos}
end
end L2
set_option Elab.async false
set_option linter.all false
set_option maxRecDepth 100000
namespace L2
open PySem PySem.Spec PyProof.Rows PySem.W
section
variable {X:Cx}
end
end L2
set_option Elab.async false
set_option linter.all false
set_option maxRecDepth 100000
namespace L2
open PySem PySem.Spec PyProof.Rows
section
variable {X:Cx}
end
def CDivB (_ j:Int):Prop:=0 < j∧j < 18446744073709551616
theorem op_fdivB {X:Cx}:OpR X (binaryOp .FloorDiv) (rI CDivB fun i j=>.int (i / j)):=opI fun i j _ _ _ _ _ hc q=>by
 have h1:(0:Int) < j:=hc.1
 have h2:j < 18446744073709551616:=hc.2
 refine floordiv_int (by omega) (by rw [Int.fdiv_eq_ediv_of_nonneg i (by omega)]; exact q) (.inl ?_)
 have h3:j.natAbs.log2 < 64:=(Nat.log2_lt (by omega)).mpr (by omega)
 unfold Builtin.divisionGoesByPylong
 have hz:(j == 0)=false:=by simp; omega
 simp only [hz,Bool.false_eq_true,if_false]
 have:¬ (j.natAbs.log2 / 30 + 1 > 300):=by omega
 simp [this]
theorem setR {H:Hp} {l:Addr} {xs:List V} {i:Int} {v:V} {Q:Hp→Prop} (h:H l=some (.lst xs)) (i0:0≤i) (i1:i < xs.length) (q:Q (upd H l (.lst (xs.set i.toNat v)))):rSetL (.ref l) (.int i) v H Q :=
 ⟨l,xs,i,i.toNat,rfl,rfl,h,by unfold ixN; rw [if_pos i0,if_pos (by omega)],q⟩
theorem atG {xs:List Int} {i:Int} (i0:0≤i) (i1:i < xs.length):atI (xs.map V.int) i=some (.int (xs.getD i.toNat 0)):=atI_int i0 (by
 have h:i.toNat < xs.length:=by omega
 rw [List.getElem?_map,List.getElem?_eq_getElem h]
 simp [List.getD,h])
theorem flatR (n:Nat) (v:V):(List.replicate n [v]).flatten=List.replicate n v:=by
 induction n with
 | zero=>rfl
 | succ n ih=>rw [List.replicate_succ,List.flatten_cons,ih,List.replicate_succ]; rfl
theorem ge_set {xs:List Int} {n:Nat} {v:Int} (h:∀ x∈xs,0≤x) (hv:0≤v):∀ x∈xs.set n v,0≤x:=fun x hx=>by
 rcases List.mem_or_eq_of_mem_set hx with h1 | h1
 · exact h x h1
 · rw [h1]; exact hv
theorem ge_getD {xs:List Int} (h:∀ x∈xs,0≤x) (n:Nat):0≤xs.getD n 0:=by
 by_cases z:n < xs.length
 · rw [List.getD,List.getElem?_eq_getElem z]; exact h _ (List.getElem_mem z)
 · rw [List.getD,List.getElem?_eq_none (by omega)]; exact Int.le_refl _
theorem get_list {X:Cx}:PGet X (rIxL X.K):=by
 intro pins s σ H x y v u Q I rx ry h
 obtain ⟨p,xs,i,z,rfl,rfl,hq,he,q⟩:=h
 cases rx
 obtain ⟨t,rfl⟩:=ry
 obtain ⟨its,r,pl,hz⟩:=I.list hq
 obtain ⟨j,h1,h2,h3,h4,h5⟩:=atI_get he
 obtain ⟨w,ew,rw'⟩:=r.get h2
 have hl:=r.length
 have hn:=line63
 have fin:EP X pins σ Q w s:=⟨z,H,I,rw',q⟩
 by_cases h0:0≤i
 · have hj:i.toNat=j:=by
     rw [seqIndex_of h0 h5] at h1
     exact Option.some.inj h1
   exact wpAny_getItem_list pl.isList h0 (by omega) (by rw [hj]; simpa using ew) fin
 · have hj:(i + (its.toArray.size:Int)).toNat=j:=by
     rw [seqIndex_neg (by omega) h4] at h1
     rw [List.size_toArray,← hl]
     exact Option.some.inj h1
   exact wpAny_getItem_list_neg pl.isList (by omega) (by rw [List.size_toArray] <;> omega) (by omega) (by rw [hj]; simpa using ew) fin
theorem comp_rev {K:PySem.W.Frag} {a p:Addr} {xs:List V} {Q:VK} {g:TG} {tc:TT} {te:TE} {σ0:St} {H0:Hp} (Pv:Nat→List V→St→Hp→Prop) (h0:Pv 0 [] σ0 H0) (hl:∀ i ys σ H,i≤xs.length→Pv i ys σ H→SqL K H a xs)
   (hs:∀ (i:Nat) (x:V) (ys:List V) (σ:St) (H:Hp) (N:List V→St→Hp→Prop),(∀ ys' σ' H',Pv (i + 1) ys' σ' H'→N ys' σ' H')→xs.reverse[i]?=some x→Pv i ys σ H→g x σ H fun σ2 H2=>tc σ2 H2 fun b H3 =>
     if b=true then te σ2 H3 fun y H4=>H4 p=some (.lst ys)∧ys.length < sizeLine∧N (ys ++ [y]) σ2 (upd H4 p (.lst (ys ++ [y]))) else N ys σ2 H3)
   (hd:∀ ys σ H,Pv xs.length ys σ H→Q (.ref p) H):CompGo (Itv K a xs.length) p Q g tc te σ0 H0:=by
 refine ⟨fun i m ys σ H=>m=xs.length - i∧i≤xs.length∧Pv i ys σ H,⟨xs.length,by simp,Nat.zero_le _,h0⟩,?_⟩
 rintro i m ys σ H ⟨rfl,hi,pv⟩
 have q:=hl i ys σ H hi pv
 by_cases hlt:i < xs.length
 · have hx:xs[xs.length - 1 - i]?=some xs[xs.length - 1 - i]:=List.getElem?_eq_getElem (by omega)
   refine .inr ⟨⟨hlt,xs,_,q,hx⟩,fun x H' y=>?_⟩
   obtain ⟨e,y⟩:=y
   subst e
   exact hs i x ys σ _ (fun ys' σ' H'=>∃ m',m' < xs.length - i∧(m'=xs.length - (i + 1)∧i + 1≤xs.length∧Pv (i + 1) ys' σ' H')) (fun ys' σ' H' pv'=>⟨xs.length - (i + 1),by omega,rfl,hlt,pv'⟩) (by rw [List.getElem?_reverse hlt]; exact y xs q) pv
 · have e:i=xs.length:=by omega
   subst e
   exact .inl ⟨Nat.le_refl _,hd ys σ H pv⟩
end L2
set_option Elab.async false
set_option linter.all false
set_option maxRecDepth 100000
namespace Pb
open L2
def After (par:Int→Int):List Int→List Int→Prop
 | _,[]=>True
 | S,c :: t=>par c∈S∧After par (c :: S) t
section
variable {m:Int} {rs:List Road} {r:Int} {par:Int→Int} {dep:Int→Nat}
theorem After.mono:∀ {l S S':List Int},(∀ x∈S,x∈S')→After par S l→After par S' l
 | [],_,_,_,_=>trivial
 | c :: t,S,S',h,a=>⟨h _ a.1,After.mono (fun x hx=>by
     rcases List.mem_cons.mp hx with e | e
     · exact List.mem_cons.mpr (.inl e)
     · exact List.mem_cons_of_mem _ (h x e)) a.2⟩
theorem After.append:∀ {l1 l2 S:List Int},After par S l1→After par S l2→After par S (l1 ++ l2)
 | [],_,_,_,b=>b
 | c :: t,l2,S,a,b=>⟨a.1,After.append a.2 (b.mono fun x hx=>List.mem_cons_of_mem _ hx)⟩
theorem After.snoc {c:Int}:∀ {l S:List Int},After par S l→(par c∈S∨par c∈l)→After par S (l ++ [c])
 | [],S,_,h=>⟨h.resolve_right (by simp),trivial⟩
 | d :: t,S,a,h=>⟨a.1,After.snoc a.2 (by
     rcases h with h | h
     · exact .inl (List.mem_cons_of_mem _ h)
     · rcases List.mem_cons.mp h with e | e
       · exact .inl (List.mem_cons.mpr (.inl e))
       · exact .inr e)⟩
theorem After.up:∀ {A B S:List Int},After par S (A ++ B)→∀ k∈A,par k∈S∨par k∈A
 | [],_,_,_,k,hk=>by cases hk
 | c :: t,B,S,a,k,hk=>by
   rcases List.mem_cons.mp hk with e | e
   · rw [e]; exact .inl a.1
   · rcases After.up (A:=t) (B:=B) a.2 k e with h | h
     · rcases List.mem_cons.mp h with h | h
       · exact .inr (by rw [h]; exact List.mem_cons_self)
       · exact .inl h
     · exact .inr (List.mem_cons_of_mem _ h)
structure Order (m r:Int) (par:Int→Int) (t:List Int):Prop where
 nd:(r :: t).Nodup
 rng:∀ v∈t,0≤v∧v < m
 all:∀ v,0≤v→v < m→v=r∨v∈t
 af:After par [r] t
theorem Order.ne {t:List Int} (O:Order m r par t) {v:Int} (h:v∈t):v≠r:=fun z=>(List.nodup_cons.mp O.nd).1 (z ▸ h)
theorem preU_after (g:Good m rs) (R:Rooted m rs r par dep):∀ (n:Nat) (v:Int) (S:List Int),0≤v→v < m→par v∈S→After par S (preU m rs r par n v)
 | 0,v,S,_,_,h=>⟨h,trivial⟩
 | n + 1,v,S,h0,h1,h=>by
   refine ⟨h,?_⟩
   have:∀ (ks:List Int) (S:List Int),v∈S→(∀ u∈ks,u∈kidsOf m rs (front r par v) v)→After par S (ks.flatMap (preU m rs r par n)):=by
     intro ks
     induction ks with
     | nil=>intro S _ _; exact trivial
     | cons u ks ih =>
       intro S hv hk
       rw [List.flatMap_cons]
       obtain ⟨w1,w2,w3⟩:=(mem_kids g R h0 h1).mp (hk u List.mem_cons_self)
       exact (preU_after g R n u S w1.1 w1.2 (by rw [w3]; exact hv)).append (ih S hv fun x hx=>hk x (List.mem_cons_of_mem _ hx))
   exact this _ _ List.mem_cons_self fun u hu=>hu
theorem preL_order (g:Good m rs) (R:Rooted m rs r par dep) (r0:0≤r) (r1:r < m) (nd:(preL m rs r par dep r).Nodup) (al:∀ v,v∈preL m rs r par dep r↔0≤v∧v < m):∃ t,preL m rs r par dep r=r :: t∧Order m r par t:=by
 have e:=preL_step g R r0 r1
 refine ⟨_,e,?_⟩
 rw [e] at nd al
 refine ⟨nd,fun v hv=>(al v).mp (List.mem_cons_of_mem _ hv),fun v h0 h1=>List.mem_cons.mp ((al v).mpr ⟨h0,h1⟩),?_⟩
 have:∀ ks:List Int,(∀ u∈ks,u∈kidsOf m rs (front r par r) r)→After par [r] (ks.flatMap (preL m rs r par dep)):=by
   intro ks
   induction ks with
   | nil=>intro _; exact trivial
   | cons u ks ih =>
     intro hk
     rw [List.flatMap_cons]
     obtain ⟨w1,w2,w3⟩:=(mem_kids g R r0 r1).mp (hk u List.mem_cons_self)
     exact (preU_after g R _ u [r] w1.1 w1.2 (by rw [w3]; exact List.mem_cons_self)).append (ih fun x hx=>hk x (List.mem_cons_of_mem _ hx))
 exact this _ fun u hu=>hu
def gatU (m:Int) (rs:List Road) (r:Int) (par:Int→Int) (held:Int→Int) (con:Int→Int→Int):Nat→Int→Int
 | 0,v=>held v
 | n + 1,v=>held v + ((kidsOf m rs (front r par v) v).map fun c=>con c (gatU m rs r par held con n c)).sum
def gat (m:Int) (rs:List Road) (r:Int) (par:Int→Int) (dep:Int→Nat) (held:Int→Int) (con:Int→Int→Int) (v:Int):Int:=gatU m rs r par held con (m.toNat - 1 - dep v) v
variable {held:Int→Int} {con:Int→Int→Int}
theorem gat_step (g:Good m rs) (R:Rooted m rs r par dep) {v:Int} (h0:0≤v) (h1:v < m):gat m rs r par dep held con v=held v + ((kidsOf m rs (front r par v) v).map fun c=>con c (gat m rs r par dep held con c)).sum:=by
 have mk:∀ u,u∈kidsOf m rs (front r par v) v→(0≤u∧u < m)∧u≠r∧par u=v:=fun u=>(mem_kids g R h0 h1).mp
 have du:∀ u∈kidsOf m rs (front r par v) v,dep u=dep v + 1∧dep u + 1≤m.toNat:=fun u hu=>by
   obtain ⟨w1,w2,w3⟩:=mk u hu
   have:=R.pos w1.1 w1.2 w2
   rw [w3] at this
   exact ⟨this,dep_lt R w1.1 w1.2⟩
 unfold gat
 cases e:m.toNat - 1 - dep v with
 | zero =>
   have:kidsOf m rs (front r par v) v=[]:=List.eq_nil_iff_forall_not_mem.mpr fun u hu=>by
     have:=du u hu
     omega
   rw [this]
   simp [gatU]
 | succ n =>
   show held v + _=_
   rw [List.map_congr_left fun u hu=>show con u (gatU m rs r par held con n u)=con u (gatU m rs r par held con (m.toNat - 1 - dep u) u) by rw [show m.toNat - 1 - dep u=n by have:=du u hu; omega]]
theorem perm_sum {l l':List Int} (h:l.Perm l'):l.sum=l'.sum:=by
 induction h with
 | nil=>rfl
 | cons x _ ih=>rw [List.sum_cons,List.sum_cons,ih]
 | swap x y l=>simp only [List.sum_cons]; omega
 | trans _ _ h1 h2=>exact h1.trans h2
def gstep (par:Int→Int) (con:Int→Int→Int) (cs:List Int) (v:Int):List Int:=cs.set (par v).toNat (cs.getD (par v).toNat 0 + con v (cs.getD v.toNat 0))
structure Sofar (m:Int) (rs:List Road) (r:Int) (par:Int→Int) (dep:Int→Nat) (held:Int→Int) (con:Int→Int→Int) (t cs:List Int):Prop where
 len:(cs.length:Int)=m
 val:∀ v,0≤v→v < m→cs.getD v.toNat 0=held v + ((t.filter fun c=>decide (par c=v)).map fun c=>con c (gat m rs r par dep held con c)).sum
theorem Sofar.nil {hs:List Int} (h:(hs.length:Int)=m):Sofar m rs r par dep (fun v=>hs.getD v.toNat 0) con [] hs:=⟨h,fun v _ _=>by simp⟩
theorem kids_of_row (g:Good m rs) (R:Rooted m rs r par dep) {t:List Int} (nd:t.Nodup) (tr:∀ x∈t,(0≤x∧x < m)∧x≠r) {v:Int} (h0:0≤v) (h1:v < m) (hk:∀ k,0≤k→k < m→k≠r→par k=v→k∈t):(t.filter fun c=>decide (par c=v)).Perm (kidsOf m rs (front r par v) v):=by
 refine perm_of_nodup (nd.filter _) kids_nodup fun x=>?_
 rw [List.mem_filter,mem_kids g R h0 h1,decide_eq_true_eq]
 exact ⟨fun h=>⟨(tr x h.1).1,(tr x h.1).2,h.2⟩,fun h=>⟨hk x h.1.1 h.1.2 h.2.1 h.2.2,h.2.2⟩⟩
theorem Sofar.full (g:Good m rs) (R:Rooted m rs r par dep) {t cs:List Int} (s:Sofar m rs r par dep held con t cs) (nd:t.Nodup) (tr:∀ x∈t,(0≤x∧x < m)∧x≠r) {v:Int} (h0:0≤v) (h1:v < m) (hk:∀ k,0≤k→k < m→k≠r→par k=v→k∈t):cs.getD v.toNat 0=gat m rs r par dep held con v:=by
 rw [s.val v h0 h1,gat_step g R h0 h1,perm_sum ((kids_of_row g R nd tr h0 h1 hk).map _)]
theorem Sofar.step (g:Good m rs) (R:Rooted m rs r par dep) {t cs:List Int} (s:Sofar m rs r par dep held con t cs) {v:Int} (h0:0≤v) (h1:v < m) (hr:v≠r) (e:cs.getD v.toNat 0=gat m rs r par dep held con v):Sofar m rs r par dep held con (v :: t) (gstep par con cs v) where
 len:=by unfold gstep; rw [List.length_set]; exact s.len
 val:=fun u u0 u1=>by
   have pu:=(R.up v h0 h1 hr).1
   have sl:=s.len
   have vu:=s.val u u0 u1
   unfold gstep
   rw [e]
   by_cases c:par v=u
   · have hl:u.toNat < cs.length:=by omega
     rw [List.filter_cons_of_pos (by simpa using c),List.map_cons,List.sum_cons,c]
     rw [show (cs.set u.toNat (cs.getD u.toNat 0 + con v (gat m rs r par dep held con v))).getD u.toNat 0=cs.getD u.toNat 0 + con v (gat m rs r par dep held con v) by simp [List.getD,hl],vu]
     omega
   · rw [List.filter_cons_of_neg (by simpa using c),← vu]
     have:(par v).toNat≠u.toNat:=by omega
     simp [List.getD,List.getElem?_set_ne this]
theorem Order.places {t:List Int} (O:Order m r par t):∀ x∈t,(0≤x∧x < m)∧x≠r:=fun x hx=>⟨O.rng x hx,O.ne hx⟩
theorem Order.turn (g:Good m rs) (R:Rooted m rs r par dep) {t cs:List Int} (O:Order m r par t) {i:Nat} {v:Int} (s:Sofar m rs r par dep held con (t.drop (t.length - i)) cs) (hv:t.reverse[i]?=some v) :
   ((0≤v∧v < m)∧v≠r)∧cs.getD v.toNat 0=gat m rs r par dep held con v∧Sofar m rs r par dep held con (t.drop (t.length - (i + 1))) (gstep par con cs v):=by
 have hi:i < t.length:=by
   have:=(List.getElem?_eq_some_iff.mp hv).1
   rwa [List.length_reverse] at this
 rw [List.getElem?_reverse hi] at hv
 generalize hj:t.length - 1 - i=j at hv
 have ej:t.length - i=j + 1:=by omega
 have ej':t.length - (i + 1)=j:=by omega
 rw [ej] at s
 rw [ej']
 have hjl:j < t.length:=by omega
 have vm:v∈t:=List.mem_of_getElem? hv
 have vp:=O.places v vm
 have ed:t.drop j=v :: t.drop (j + 1):=by
   rw [List.drop_eq_getElem_cons hjl]
   rw [List.getElem?_eq_getElem hjl] at hv
   cases hv
   rfl
 have es:t=t.take j ++ v :: t.drop (j + 1):=by rw [← ed,List.take_append_drop]
 have ndt:=(List.nodup_cons.mp O.nd).2
 have nd2:=ndt
 rw [es] at nd2
 have av:v ∉ t.take j:=fun z=>(List.nodup_append.mp nd2).2.2 v z v List.mem_cons_self rfl
 have e:=s.full g R (ndt.sublist (List.drop_sublist _ _)) (fun x hx=>O.places x (List.mem_of_mem_drop hx)) vp.1.1 vp.1.2 fun k k0 k1 kr pk=>by
   rcases O.all k k0 k1 with z | z
   · exact absurd z kr
   · rw [es] at z
     rcases List.mem_append.mp z with z | z
     · have af:=O.af
       rw [es] at af
       rcases af.up k z with w | w
       · rw [pk] at w
         exact absurd (List.mem_singleton.mp w) vp.2
       · rw [pk] at w
         exact absurd w av
     · rcases List.mem_cons.mp z with z | z
       · subst z
         exact absurd pk (R.ne k0 k1 kr)
       · exact z
 exact ⟨vp,e,by rw [ed]; exact s.step g R vp.1.1 vp.1.2 vp.2 e⟩
def gatL (m:Int) (rs:List Road) (r:Int) (par:Int→Int) (dep:Int→Nat) (held:Int→Int) (con:Int→Int→Int):List Int:=(below m.toNat).map (gat m rs r par dep held con)
theorem gatL_get {v:Int} (h0:0≤v) (h1:v < m):(gatL m rs r par dep held con).getD v.toNat 0=gat m rs r par dep held con v:=by
 unfold gatL
 rw [List.getD,List.getElem?_map,below_get (by omega),Int.toNat_of_nonneg h0]
 rfl
theorem Order.done (g:Good m rs) (R:Rooted m rs r par dep) {t cs:List Int} (O:Order m r par t) (s:Sofar m rs r par dep held con t cs):cs=gatL m rs r par dep held con:=by
 have sl:=s.len
 refine List.ext_getElem? fun i=>?_
 by_cases h:i < m.toNat
 · have hc:i < cs.length:=by omega
   have e:=s.full g R (List.nodup_cons.mp O.nd).2 O.places (v:=(i:Int)) (by omega) (by omega) fun k k0 k1 kr pk=>(O.all k k0 k1).resolve_left kr
   unfold gatL
   rw [List.getElem?_map,below_get h]
   rw [Int.toNat_natCast,List.getD,List.getElem?_eq_getElem hc] at e
   rw [List.getElem?_eq_getElem hc]
   exact congrArg some e
 · unfold gatL
   rw [List.getElem?_eq_none (by omega),List.getElem?_eq_none (by rw [List.length_map,below_length]; omega)]
theorem Rooted.adj (R:Rooted m rs r par dep) {a b:Int} (h:Adj rs a b):(b≠r∧par b=a)∨(a≠r∧par a=b):=by
 obtain ⟨x,hx,j⟩:=h
 have:=R.road x hx
 rcases j with ⟨e1,e2⟩ | ⟨e1,e2⟩
 · subst e1; subst e2
   exact this.symm
 · subst e1; subst e2
   exact this
end
end Pb
set_option Elab.async false
set_option linter.all false
set_option maxRecDepth 100000
namespace Pb
open L2
section
variable {m:Int} {rs:List Road} {r:Int} {par:Int→Int} {dep:Int→Nat} {held:Int→Int}
theorem Order.kids (R:Rooted m rs r par dep) {tl P S:List Int} {v:Int} (O:Order m r par tl) (es:tl=P ++ v :: S):∀ k,0≤k→k < m→k≠r→par k=v→k∈S:=by
 intro k k0 k1 kr pk
 have vm:v∈tl:=by rw [es]; simp
 have vp:=O.places v vm
 have nd2:=(List.nodup_cons.mp O.nd).2
 rw [es] at nd2
 have av:v ∉ P:=fun z=>(List.nodup_append.mp nd2).2.2 v z v List.mem_cons_self rfl
 rcases O.all k k0 k1 with z | z
 · exact absurd z kr
 · rw [es] at z
   rcases List.mem_append.mp z with z | z
   · have af:=O.af
     rw [es] at af
     rcases af.up k z with w | w
     · rw [pk] at w
       exact absurd (List.mem_singleton.mp w) vp.2
     · rw [pk] at w
       exact absurd w av
   · rcases List.mem_cons.mp z with z | z
     · subst z
       exact absurd pk (R.ne k0 k1 kr)
     · exact z
def tol (rs:List Road) (par:Int→Int) (v:Int):Int:=(tollOf rs v (par v)).getD 1
theorem getD_set (l:List Int) (i j:Nat) (x:Int) (h:i < l.length):(l.set i x).getD j 0=if i=j then x else l.getD j 0:=by
 by_cases c:i=j
 · subst c
   rw [if_pos rfl]
   simp [List.getD,h]
 · rw [if_neg c]
   simp [List.getD,List.getElem?_set_ne c]
end
section
open PySem
end
end Pb
set_option Elab.async false
set_option linter.all false
set_option maxRecDepth 100000
namespace L2
open PySem PySem.Spec PyProof.Rows
end L2
set_option Elab.async false
set_option linter.all false
set_option maxRecDepth 100000
namespace L2
open PySem PySem.Spec PyProof.Rows
def Itrs (lo st:Int) (n:Nat):It:=⟨fun i _=>i < n,fun i H x H'=>H'=H∧x=.int (lo + i * st),fun i _=>n≤i⟩
theorem turn_rangeS {P:Program} {w:World} {K:PySem.W.Frag} {tg:Expr} (it:Addr) (lo st:Int) (n:Nat):Turn P w K tg (Itrs lo st n) [it] it (fun i h=>IsRangeIter h it (lo + (i:Nat) * st) ((n:Int) - (i:Nat)) st) where
 mem:=by simp
 obj:=fun i h st b hb=>by
   have e:b=it:=by simpa using hb
   subst e
   exact ⟨_,st,fun v z=>by
     have z':Data.fields _=Data.cell v:=z
     cases z'⟩
 keep:=fun i h h' st k=>k it (by simp) _ st
 item:=by
   intro X hP hw hK hc i pins s σ H E I hf hst hg
   subst hP hw hK
   obtain ⟨f0,f1,f2,f3,f4,f5⟩:=hf it (by simp)
   have W:=Walks.range (prog:=X.prog) (w:=X.w) (I.ok.hd hc) it lo st n
   refine W.item i s _ _ hg hst fun v h' tk hv st' kk=>?_
   obtain ⟨t,rfl⟩:=hv
   have I1:Inv X pins σ H { s with heap:=h',toks:=tk }:=I.turned (fun b o hb e=>kk b o (by simpa using hb) e) f0 f1 f3 f4 f5
   exact ⟨_,rfl,go_of (s:={ s with heap:=h',toks:=tk }) (n:="range_iterator") st' rfl rfl (by decide) ⟨.int (lo + i * st),H,I1,⟨t,rfl⟩,⟨rfl,rfl⟩,st',fun b hb=>(hf b hb).1⟩⟩
 done:=by
   intro X hP hw hK hc i pins s σ H E I hf hst hg
   subst hP hw hK
   obtain ⟨f0,f1,f2,f3,f4,f5⟩:=hf it (by simp)
   exact wpAny_pyNext_range_end (I.ok.hd hc) hst (by have:n≤i:=hg; omega) fun h' eb=>⟨rfl,I.turned (t':=s.toks) (fun b o hb e=>eb b o hb e) f0 f1 f3 f4 f5⟩
 self:=fun _ _ _ _ _ st h=>wpAny_pyIter_rangeiter st h
theorem rangeS_pos {lo hi c:Int} (hc:0 < c):Builtin.Range.rangeSize lo hi c=if lo < hi then (hi - lo - 1) / c + 1 else 0:=by
 unfold Builtin.Range.rangeSize
 rw [if_pos hc]
theorem rangeS_nn {lo hi c:Int} (hc:0 < c) (hh:hi≤1000000) (h0:0≤lo):0≤Builtin.Range.rangeSize lo hi c∧Builtin.Range.rangeSize lo hi c≤1000000:=by
 rw [rangeS_pos hc]
 by_cases z:lo < hi
 · rw [if_pos z]
   have h1:=Int.ediv_nonneg (show 0≤hi - lo - 1 by omega) (show 0≤c by omega)
   have h2:=Int.ediv_le_self c (show 0≤hi - lo - 1 by omega)
   omega
 · rw [if_neg z]; decide
theorem rangeS_small {lo hi c:Int} (h0:0≤lo) (h1:lo≤1000000) (hh0:0≤hi) (hh:hi≤1000000) (hc:0 < c) (hc1:c≤1000000):Builtin.Range.small lo hi c=true:=by
 obtain ⟨q0,q1⟩:=rangeS_nn (lo:=lo) (hi:=hi) hc hh h0
 unfold Builtin.Range.small
 generalize Builtin.Range.rangeSize lo hi c=z at q0 q1
 rw [if_pos hc]
 have fit:∀ x:Int,-10000000≤x→x≤10000000→Builtin.Range.rangeFitsLong x=true:=fun x a b=>by
   unfold Builtin.Range.rangeFitsLong
   simp only [Bool.and_eq_true,decide_eq_true_eq]
   omega
 rw [fit lo (by omega) (by omega),fit hi (by omega) (by omega),fit c (by omega) (by omega),fit z (by omega) (by omega),fit (hi + (c - 1)) (by omega) (by omega)]
 simp
def iRng3 (ta:TA):TI:=fun σ H R=>ta σ H fun vs H1=>∃ i j c:Int,vs=[.int i,.int j,.int c]∧(0≤i∧i≤1000000∧0≤j∧j≤1000000∧0 < c∧c≤1000000)∧R (Itrs i c (Builtin.Range.rangeSize i j c).toNat) H1
section
variable {X:Cx} {tg:Expr}
theorem pi_range3 {a b c:Expr} {ta:TA} {p pos:Pos} (hg:Gl X "range") (hm:X.mg "range"=none) (ha:PA X [a,b,c] ta) (hs:starEach [a,b,c] X.env=(false,eval a X.env) :: starEach [b,c] X.env:=by rfl) (hp:(backTo pos (starEach [b,c] X.env)).any (·.1)=false:=by rfl) :
   PI X tg (.Call (.Name "range" p) [a,b,c] [] pos) (iRng3 ta):=by
 intro pins s σ H R I h
 refine Call_ (ld_blt I hg hm boot_range (PyProof.Rows.callWith_type1 (thnA (ha pos pins s σ H _ I h) fun us s1 vs H1 I1 r1 q1=>?_) hs hp))
 obtain ⟨lo,hi,st,e,⟨q1,q2,q3,q4,q5,q6⟩,q⟩:=q1
 subst e
 cases r1 with
 | cons r rr =>
   cases rr with
   | cons r' rr =>
     cases rr with
     | cons r'' rr =>
       cases rr
       obtain ⟨t,rfl⟩:=r
       obtain ⟨t',rfl⟩:=r'
       obtain ⟨t'',rfl⟩:=r''
       refine call_range_3 (by omega) ?_ (.inl (PyProof.noPylong_small (by omega)))
       refine wpAny_pyIter_range (IsRange.new ..) (rangeS_small q1 q2 q3 q4 q5 q6) ?_
       have I2:Inv X pins σ H1 { s1 with heap:=s1.heap.push { cls:=.type "range",data:=.fields #[.int lo t,.int hi t',.int st t''] } }:=I1.kept (t':=s1.toks) fun b o e=>Heap.get?_push_of_some _ e
       refine ⟨(s1.heap.push { cls:=.type "range",data:=.fields #[.int lo t,.int hi t',.int st t''] }).objs.size,[(s1.heap.push { cls:=.type "range",data:=.fields #[.int lo t,.int hi t',.int st t''] }).objs.size],_,_,H1,rfl,
         I2.kept (t':=s1.toks) fun b o e=>Heap.get?_push_of_some _ e,turn_rangeS _ lo st _,?_,fun b hb=>?_,q⟩
       · have nn:=(rangeS_nn (lo:=lo) (hi:=hi) q5 q4 q1).1
         have e1:lo + ((0:Nat):Int) * st=lo:=by simp
         have e2:(((Builtin.Range.rangeSize lo hi st).toNat:Nat):Int) - ((0:Nat):Int)=Builtin.Range.rangeSize lo hi st:=by omega
         show IsRangeIter _ _ (lo + ((0:Nat):Int) * st) ((((Builtin.Range.rangeSize lo hi st).toNat:Nat):Int) - ((0:Nat):Int)) st
         rw [e1,e2]
         exact Heap.get?_push_size _ rfl
       · have e:b=(s1.heap.push { cls:=.type "range",data:=.fields #[.int lo t,.int hi t',.int st t''] }).objs.size:=by simpa using hb
         subst e
         exact I2.fpOk (Nat.le_refl _) (I2.hok.fresh (Nat.le_refl _))
end
theorem for_rangeS {lo hi c:Int} {g:TG} {tb:TS} {D:Ends} {σ:St} {H:Hp} (hc:0 < c) (Pv:Nat→St→Hp→Prop) (h0:Pv 0 σ H)
   (hs:∀ (i:Nat) (v:Int) (σ:St) (H:Hp) (N:St→Hp→Prop),(∀ σ' H',Pv (i + 1) σ' H'→N σ' H')→lo≤v→v < hi→Pv i σ H→g (.int v) σ H fun σ2 H2=>tb { D with nx:=N,ct:=N,bk:=D.nx } σ2 H2) (hd:∀ n σ H,Pv n σ H→D.nx σ H) :
   ForGo (Itrs lo c (Builtin.Range.rangeSize lo hi c).toNat) D g tb σ H:=by
 generalize hn:(Builtin.Range.rangeSize lo hi c).toNat=n
 have bound:∀ i:Nat,i < n→lo≤lo + i * c∧lo + i * c < hi:=fun i hi'=>by
   rw [rangeS_pos hc] at hn
   by_cases z:lo < hi
   · rw [if_pos z] at hn
     have h1:=Int.ediv_mul_le (hi - lo - 1) (show c≠0 by omega)
     have h2:=Int.ediv_nonneg (show 0≤hi - lo - 1 by omega) (show 0≤c by omega)
     have h3:(i:Int) * c≤(hi - lo - 1) / c * c:=Int.mul_le_mul_of_nonneg_right (by omega) (by omega)
     have h4:0≤(i:Int) * c:=Int.mul_nonneg (by omega) (by omega)
     omega
   · rw [if_neg z] at hn
     have:n=0:=by rw [← hn]; rfl
     omega
 refine ⟨fun i m σ H=>m=n - i∧i≤n∧Pv i σ H,⟨n,by simp,Nat.zero_le _,h0⟩,?_⟩
 rintro i m σ H ⟨rfl,hi',p⟩
 by_cases hlt:i < n
 · refine .inr ⟨hlt,fun σ' H'=>∃ m',m' < n - i∧(m'=n - (i + 1)∧i + 1≤n∧Pv (i + 1) σ' H'),fun σ' H' z=>z,fun x H' y=>?_⟩
   obtain ⟨e,y⟩:=y
   subst e y
   exact hs i _ σ _ _ (fun σ' H' p'=>⟨n - (i + 1),by omega,rfl,hlt,p'⟩) (bound i hlt).1 (bound i hlt).2 p
 · have e:i=n:=by omega
   subst e
   exact .inl ⟨Nat.le_refl _,hd _ σ H p⟩
end L2
set_option Elab.async false
set_option linter.all false
set_option maxRecDepth 100000
namespace L2
open PySem PySem.Spec PyProof.Rows
def rIxX (K:PySem.W.Frag) (c:Bool):R2:=fun x y H Q=>∃ p xs i v,x=.ref p∧y=.int i∧SqX K c H p xs∧atI xs i=some v∧Q v H
theorem ix_any {X:Cx} (c:Bool):IxR X (rIxX X.K c):=by
 cases c
 · exact ix_tup
 · exact ix_list
theorem ix_anyK {X:Cx} (c:Bool) (K:PySem.W.Frag) (h:X.K=K):IxR X (rIxX K c):=by subst h; exact ix_any c
theorem ixX {K:PySem.W.Frag} {c:Bool} {H:Hp} {p:Addr} {xs:List V} {i:Int} {v:V} {Q:VK} (h:SqX K c H p xs) (e:atI xs i=some v) (q:Q v H):rIxX K c (.ref p) (.int i) H Q:=⟨p,xs,i,v,rfl,rfl,h,e,q⟩
theorem ixTS {K:PySem.W.Frag} {H:Hp} {p:Addr} {xs:List V} {i:Int} {v:V} {Q:VK} (h:SqT K H p xs) (e:atI xs i=some v) (q:Q v H):rIxT K (.ref p) (.int i) H Q:=⟨p,xs,i,v,rfl,rfl,h,e,q⟩
theorem if_join {c:Prop} [Decidable c] {A B:Prop} {P:Int→Prop} (m1 m2:Int) (hB:P m2→B) (hA:P m1→A) (h:∀ m,(m=m1∨m=m2)→P m):if c then A else B:=by
 by_cases z:c
 · rw [if_pos z]; exact hA (h _ (.inl rfl))
 · rw [if_neg z]; exact hB (h _ (.inr rfl))
end L2
namespace Pb
open L2 PySem
theorem pr_take {α β:Type} {R:α→β→Prop}:∀ (n:Nat) {l₁:List α} {l₂:List β},Paired R l₁ l₂→Paired R (l₁.take n) (l₂.take n)
 | 0,_,_,_=>by rw [List.take_zero,List.take_zero]; exact .nil
 | _ + 1,_,_,.nil=>.nil
 | n + 1,_,_,.cons x xs=>.cons x (pr_take n xs)
theorem pr_drop {α β:Type} {R:α→β→Prop}:∀ (n:Nat) {l₁:List α} {l₂:List β},Paired R l₁ l₂→Paired R (l₁.drop n) (l₂.drop n)
 | 0,_,_,h=>h
 | _ + 1,_,_,.nil=>.nil
 | n + 1,_,_,.cons x xs=>pr_drop n xs
theorem pr_app {α β:Type} {R:α→β→Prop} {k₁:List α} {k₂:List β} (h:Paired R k₁ k₂):∀ {l₁:List α} {l₂:List β},Paired R l₁ l₂→Paired R (l₁ ++ k₁) (l₂ ++ k₂)
 | _,_,.nil=>h
 | _,_,.cons x xs=>.cons x (pr_app h xs)
theorem pr_ins {α β:Type} {R:α→β→Prop} {ps:List α} {rs:List β} {q:α} {r:β} (n:Nat) (h:Paired R ps rs) (e:R q r):Paired R (ps.take n ++ q :: ps.drop n) (rs.take n ++ r :: rs.drop n):=pr_app (.cons e (pr_drop n h)) (pr_take n h)
theorem below_labels (n:Nat):Labels n (below n):=⟨below_length n,nodup_below n,fun v h0 h1=>mem_below.mpr ⟨h0,h1⟩,fun v h=>mem_below.mp h⟩
theorem below_getD {n:Nat} {v:Int} (h0:0≤v) (h1:v < n):(below n).getD v.toNat 0=v:=by
 rw [List.getD,below_get (by omega),Int.toNat_of_nonneg h0]
 rfl
theorem rows_snoc {n:Nat} {rows:List Row} {row:Row} (R:Rows n rows) (k:row.k=(n:Int) + 1) (ok:RowOk row):Rows (n + 1) (rows ++ [row]):=by
 have rl:=R.len
 refine ⟨by rw [List.length_append,rl]; rfl,fun j r hj=>?_⟩
 by_cases hjl:j < rows.length
 · rw [List.getElem?_append_left hjl] at hj
   exact R.ok j r hj
 · have hj2:j=rows.length:=by
     have:=(List.getElem?_eq_some_iff.mp hj).1
     rw [List.length_append] at this
     simp at this
     omega
   rw [hj2,List.getElem?_append_right (Nat.le_refl _),Nat.sub_self] at hj
   cases hj
   exact ⟨by rw [hj2,rl]; exact k,ok⟩
section
variable {m:Int} {rs:List Road} {r:Int} {par:Int→Int} {dep:Int→Nat}
def hnd (rs:List Road) (par:Int→Int) (v x:Int):Int:=if 0≤x then x / (tollOf rs v (par v)).getD 1 else x * (tollOf rs (par v) v).getD 1
theorem toll_dn (g:Good m rs) (R:Rooted m rs r par dep) {v:Int} (h0:0≤v) (h1:v < m) (hr:v≠r):∃ k,tollOf rs (par v) v=some k∧2≤k∧k≤1000000:=by
 obtain ⟨x,hx,j⟩:=(R.up v h0 h1 hr).2.1
 obtain ⟨i,hi⟩:=List.getElem?_of_mem hx
 have ok:=g.ok x hx
 have jj:Joins x (par v) v:=by
   rcases j with ⟨a,b⟩ | ⟨a,b⟩
   · exact .inr ⟨b,a⟩
   · exact .inl ⟨b,a⟩
 rw [tollOf_at g hi jj]
 unfold toll1
 by_cases c:x.a=par v∧x.b=v
 · rw [if_pos c]
   exact ⟨_,rfl,ok.t0,ok.t1⟩
 · rw [if_neg c]
   have c2:x.a=v∧x.b=par v:=by
     rcases jj with w | w
     · exact absurd w c
     · exact ⟨w.2,w.1⟩
   rw [if_pos c2]
   exact ⟨_,rfl,ok.u0,ok.u1⟩
def kidsTo (rs:List Road) (fv:V) (p:Int) (i:Nat):List Int:=((below i).filter fun q=>(tollOf rs p q).isSome).filter fun v=>decide (V.int v≠fv)
theorem below_succ (i:Nat):below (i + 1)=below i ++ [(i:Int)]:=by
 unfold below
 rw [List.range_succ,List.map_append]
 rfl
theorem kidsTo_all (p:Int) (fv:V):kidsTo rs fv p m.toNat=kidsOf m rs fv p:=by
 unfold kidsTo kidsOf
 rw [nbrs_toll]
theorem kidsTo_pos {fv:V} {p:Int} {i:Nat} (h1:(tollOf rs p (i:Int)).isSome=true) (h2:V.int (i:Int)≠fv):kidsTo rs fv p (i + 1)=kidsTo rs fv p i ++ [(i:Int)]:=by
 unfold kidsTo
 rw [below_succ,List.filter_append,List.filter_append]
 congr 1
 simp [h1,h2]
theorem kidsTo_neg {fv:V} {p:Int} {i:Nat} (h:(tollOf rs p (i:Int)).isSome=true→¬ V.int (i:Int)≠fv):kidsTo rs fv p (i + 1)=kidsTo rs fv p i:=by
 unfold kidsTo
 rw [below_succ,List.filter_append,List.filter_append]
 have:([(i:Int)].filter fun q=>(tollOf rs p q).isSome).filter (fun v=>decide (V.int v≠fv))=[]:=by
   by_cases c:(tollOf rs p (i:Int)).isSome=true
   · have:=h c
     simp [c]
     simpa using this
   · simp [c]
 rw [this,List.append_nil]
structure Bfs (m:Int) (rs:List Road) (r:Int) (par:Int→Int) (t:List Int) (k:Nat):Prop where
 J:AInv m rs r par t ((r :: t).drop k)
 af:After par [r] t
theorem Bfs.start:Bfs m rs r par [] 0:=⟨AInv.start,trivial⟩
theorem Bfs.step (g:Good m rs) (R:Rooted m rs r par dep) (r0:0≤r) (r1:r < m) {t:List Int} {k:Nat} (b:Bfs m rs r par t k) {p:Int} (hp:(r :: t)[k]?=some p):Bfs m rs r par (t ++ kidsOf m rs (front r par p) p) (k + 1):=by
 have hk:=(List.getElem?_eq_some_iff.mp hp).1
 have ed:(r :: t).drop k=p :: (r :: t).drop (k + 1):=by
   rw [List.drop_eq_getElem_cons hk]
   rw [List.getElem?_eq_getElem hk] at hp
   cases hp
   rfl
 have J:=b.J.step g R r0 r1 (p:=p) (ws':=(r :: t).drop (k + 1)) (by rw [ed])
 have pr:=b.J.at_ r0 r1 (p:=p) (by rw [ed]; exact List.mem_cons_self)
 have pm:p∈r :: t:=List.mem_of_getElem? hp
 refine ⟨?_,?_⟩
 · rw [← List.cons_append,List.drop_append_of_le_length (by omega)]
   exact J
 · have:∀ (ks l:List Int),(∀ u∈ks,u∈kidsOf m rs (front r par p) p)→After par [r] l→p∈r :: l→After par [r] (l ++ ks):=by
     intro ks
     induction ks with
     | nil=>intro l _ h _; rw [List.append_nil]; exact h
     | cons u ks ih =>
       intro l hu h hpl
       obtain ⟨w1,w2,w3⟩:=(mem_kids g R pr.1 pr.2).mp (hu u List.mem_cons_self)
       have h2:After par [r] (l ++ [u]):=h.snoc (by
         rw [w3]
         rcases List.mem_cons.mp hpl with e | e
         · exact .inl (by rw [e]; exact List.mem_cons_self)
         · exact .inr e)
       have:=ih (l ++ [u]) (fun x hx=>hu x (List.mem_cons_of_mem _ hx)) h2 (by
         rcases List.mem_cons.mp hpl with e | e
         · rw [e]; exact List.mem_cons_self
         · exact List.mem_cons_of_mem _ (List.mem_append_left _ e))
       rwa [List.append_assoc] at this
   exact this _ t (fun u hu=>hu) b.af pm
theorem Bfs.done (R:Rooted m rs r par dep) {t:List Int} {k:Nat} (hk:(r :: t).length≤k) (b:Bfs m rs r par t k):Order m r par t:=by
 have J:=b.J
 rw [List.drop_eq_nil_of_le hk] at J
 refine ⟨List.nodup_cons.mpr ⟨J.nr,J.nd⟩,J.rng,fun v h0 h1=>?_,b.af⟩
 by_cases z:v=r
 · exact .inl z
 · exact .inr (J.all R v h0 h1 z)
end
def overL (m:Int) (xs ys:List Int):List Int:=(List.range m.toNat).map fun i=>xs.getD i 0 - ys.getD i 0
theorem overL_len {m:Int} (h:0≤m) (xs ys:List Int):((overL m xs ys).length:Int)=m:=by unfold overL; rw [List.length_map,List.length_range]; omega
end Pb
set_option Elab.async false
set_option linter.all false
set_option maxRecDepth 100000
namespace L2
open PySem PySem.Spec PyProof.Rows
section
variable {P:Program} {w:World} {A:Around} {E:Value→Shared→Prop} {s:Shared} {l:Addr} {ob:Obj} {src:Heap→Array Value→Prop} {at':Addr→Nat→Heap→Prop}
end
def Ite (K:PySem.W.Frag) (c:Bool) (a:Addr):It :=
 ⟨fun i H=>∃ xs x,SqX K c H a xs∧xs[i]?=some x,
  fun i H v H'=>∃ p x,H p=none∧v=.ref p∧H'=upd H p (.tup [.int i,x])∧∀ xs,SqX K c H a xs→xs[i]?=some x,
  fun i H=>∃ xs,SqX K c H a xs∧xs.length=i⟩
def iEnum (K:PySem.W.Frag) (c:Bool) (tl:TE):TI:=fun σ H R=>tl σ H fun x H1=>∃ a,x=.ref a∧(∃ xs,SqX K c H1 a xs)∧R (Ite K c a) H1
section
variable {X:Cx} {e:Expr} {te:TE} {p2 pos:Pos}
end
end L2
set_option Elab.async false
set_option linter.all false
set_option maxRecDepth 100000
namespace Pb
open L2 PySem
abbrev Stp:=Int × Int × Int
def vSt (s:Stp):List V:=[.int s.1,.int s.2.1,.int s.2.2]
abbrev StepsAt (H:Hp):List Addr→List Stp→Prop:=Paired fun q s=>H q=some (.tup (vSt s))
theorem StepsAt.same {H H':Hp} {qs:List Addr} {ss:List Stp} (e:Same H H') (h:StepsAt H qs ss):StepsAt H' qs ss:=Paired.imp' (fun q v x=>e q _ x) h
theorem StepsAt.get {H:Hp}:∀ {ps:List Addr} {vs:List Stp} {i:Nat} {x:V},StepsAt H ps vs→(ps.map V.ref)[i]?=some x→∃ p v,x=.ref p∧ps[i]?=some p∧vs[i]?=some v∧H p=some (.tup (vSt v))
 | _,_,i,x,.nil,e=>by simp at e
 | _,_,0,x,.cons (a:=p) (b:=r) h hs,e=>⟨p,r,by simpa using e.symm,by simp,by simp,h⟩
 | a :: l1,_,i + 1,x,.cons h hs,e=>by
   have e':(List.map V.ref l1)[i]?=some x:=by simpa using e
   obtain ⟨p,r,h1,h2,h3,h4⟩:=StepsAt.get hs e'
   exact ⟨p,r,h1,by simpa using h2,by simpa using h3,h4⟩
theorem pr_snoc {α β:Type} {R:α→β→Prop} {a:α} {b:β} (h:R a b):∀ {l₁:List α} {l₂:List β},Paired R l₁ l₂→Paired R (l₁ ++ [a]) (l₂ ++ [b])
 | _,_,.nil=>.cons h .nil
 | _,_,.cons x xs=>.cons x (pr_snoc h xs)
def tollD (rs:List Road) (a b:Int):Int:=(tollOf rs a b).getD 1
def stepL (rs:List Road) (xs:List Int) (s:Stp):List Int :=
 (xs.set s.1.toNat (xs.getD s.1.toNat 0 - s.2.2 * tollD rs s.1 s.2.1)).set s.2.1.toNat ((xs.set s.1.toNat (xs.getD s.1.toNat 0 - s.2.2 * tollD rs s.1 s.2.1)).getD s.2.1.toNat 0 + s.2.2)
theorem stepL_len (rs:List Road) (xs:List Int) (s:Stp):(stepL rs xs s).length=xs.length:=by unfold stepL; rw [List.length_set,List.length_set]
def isStp (m:Int) (rs:List Road) (s:Stp):Bool:=decide (0≤s.1) && decide (s.1 < m) && decide (s.2.1∈nbrs m rs s.1) && decide (1≤s.2.2)
def canDo (m:Int) (rs:List Road) (xs:List Int) (s:Stp):Bool:=isStp m rs s && decide (s.2.2 * tollD rs s.1 s.2.1≤xs.getD s.1.toNat 0)
def stAt (rs:List Road) (xs:List Int) (ss:List Stp) (i:Nat):List Int:=(ss.take i).foldl (stepL rs) xs
def CanAll (m:Int) (rs:List Road) (xs:List Int) (ss:List Stp):Prop:=∀ i s,ss[i]?=some s→canDo m rs (stAt rs xs ss i) s=true
theorem stAt_len (rs:List Road) (xs:List Int) (ss:List Stp) (i:Nat):(stAt rs xs ss i).length=xs.length:=by
 unfold stAt
 have:∀ (l:List Stp) (ys:List Int),(l.foldl (stepL rs) ys).length=ys.length:=by
   intro l
   induction l with
   | nil=>intro ys; rfl
   | cons s l ih=>intro ys; rw [List.foldl_cons,ih,stepL_len]
 exact this _ _
theorem stAt_succ {rs:List Road} {xs:List Int} {ss:List Stp} {i:Nat} {s:Stp} (h:ss[i]?=some s):stAt rs xs ss (i + 1)=stepL rs (stAt rs xs ss i) s:=by
 unfold stAt
 rw [List.take_succ,h,List.foldl_append]
 rfl
theorem stAt_zero (rs:List Road) (xs:List Int) (ss:List Stp):stAt rs xs ss 0=xs:=by unfold stAt; rw [List.take_zero]; rfl
theorem isStp_of {m:Int} {rs:List Road} {s:Stp} (h:isStp m rs s=true):(0≤s.1∧s.1 < m)∧s.2.1∈nbrs m rs s.1∧1≤s.2.2:=by
 unfold isStp at h
 rw [Bool.and_eq_true,Bool.and_eq_true,Bool.and_eq_true] at h
 exact ⟨⟨of_decide_eq_true h.1.1.1,of_decide_eq_true h.1.1.2⟩,of_decide_eq_true h.1.2,of_decide_eq_true h.2⟩
theorem toll_rng {m:Int} {rs:List Road} (g:Good m rs) {a b:Int} (h:Adj rs a b):∃ k,tollOf rs a b=some k∧2≤k∧k≤1000000:=by
 obtain ⟨x,hx,j⟩:=h
 obtain ⟨i,hi⟩:=List.getElem?_of_mem hx
 have ok:=g.ok x hx
 have jj:Joins x a b:=j
 rw [tollOf_at g hi jj]
 unfold toll1
 by_cases c:x.a=a∧x.b=b
 · rw [if_pos c]
   exact ⟨_,rfl,ok.t0,ok.t1⟩
 · rw [if_neg c]
   have c2:x.a=b∧x.b=a:=by
     rcases jj with w | w
     · exact absurd w c
     · exact ⟨w.2,w.1⟩
   rw [if_pos c2]
   exact ⟨_,rfl,ok.u0,ok.u1⟩
theorem step_toll {m:Int} {rs:List Road} (g:Good m rs) {s:Stp} (h:isStp m rs s=true):∃ k,tollOf rs s.1 s.2.1=some k∧tollD rs s.1 s.2.1=k∧(2≤k∧k≤1000000)∧(0≤s.2.1∧s.2.1 < m):=by
 obtain ⟨h1,h2,h3⟩:=isStp_of h
 have ad:=(mem_nbrs g).mp h2
 obtain ⟨k,e,r⟩:=toll_rng g ad
 exact ⟨k,e,by unfold tollD; rw [e]; rfl,r,(g.adj ad).2.1⟩
end Pb
namespace L2
open PySem PySem.Spec PyProof.Rows
def tPar3 (i j k:Nat) (ta:TA):TS:=fun D σ H=>ta σ H fun vs H1=>∃ v w z,vs=[v,w,z]∧D.nx (((σ.set i (some v)).set j (some w)).set k (some z)) H1
end L2
set_option Elab.async false
set_option linter.all false
set_option maxRecDepth 100000
namespace Pb
open L2
section
variable {m:Int} {rs:List Road} {r:Int} {par:Int→Int} {dep:Int→Nat} {held held':Int→Int} {con:Int→Int→Int}
theorem sum_le' {f h:Int→Int}:∀ {l:List Int},(∀ c∈l,f c≤h c)→(l.map f).sum≤(l.map h).sum
 | [],_=>Int.le_refl _
 | c :: l,hl=>by
   rw [List.map_cons,List.map_cons,List.sum_cons,List.sum_cons]
   have h1:=hl c List.mem_cons_self
   have h2:=sum_le' (l:=l) fun x hx=>hl x (List.mem_cons_of_mem _ hx)
   omega
theorem sum_eq' {f h:Int→Int} {l:List Int} (hl:∀ c∈l,f c=h c):(l.map f).sum=(l.map h).sum:=by rw [List.map_congr_left hl]
theorem sum_but {f h:Int→Int} {c0:Int}:∀ {l:List Int},l.Nodup→c0∈l→(∀ c∈l,c≠c0→f c=h c)→(l.map f).sum=(l.map h).sum + (f c0 - h c0)
 | [],_,hm,_=>by cases hm
 | c :: l,nd,hm,hl=>by
   obtain ⟨n1,n2⟩:=List.nodup_cons.mp nd
   rw [List.map_cons,List.map_cons,List.sum_cons,List.sum_cons]
   by_cases z:c=c0
   · subst z
     rw [sum_eq' (f:=f) (h:=h) (l:=l) fun x hx=>hl x (List.mem_cons_of_mem _ hx) fun w=>n1 (w ▸ hx)]
     omega
   · have hm':c0∈l:=by
       rcases List.mem_cons.mp hm with w | w
       · exact absurd w.symm z
       · exact w
     rw [hl c List.mem_cons_self z,sum_but n2 hm' fun x hx=>hl x (List.mem_cons_of_mem _ hx)]
     omega
structure Chg (m:Int) (r:Int) (par:Int→Int) (held held':Int→Int) (c0 dc dp:Int):Prop where
 rng:0≤c0∧c0 < m
 nr:c0≠r
 own:held' c0=held c0 + dc
 up:held' (par c0)=held (par c0) + dp
 oth:∀ v,0≤v→v < m→v≠c0→v≠par c0→held' v=held v
theorem Chg.deep (g:Good m rs) (R:Rooted m rs r par dep) {c0 dc dp:Int} (C:Chg m r par held held' c0 dc dp):∀ (n:Nat) (v:Int),m.toNat - dep v=n→0≤v→v < m→dep c0 < dep v→gat m rs r par dep held' con v=gat m rs r par dep held con v:=by
 intro n
 induction n using Nat.strongRecOn with
 | _ n ih =>
   intro v hn v0 v1 hd
   have dc0:=R.pos C.rng.1 C.rng.2 C.nr
   rw [gat_step g R v0 v1,gat_step g R v0 v1,C.oth v v0 v1 (fun z=>by rw [z] at hd; omega) (fun z=>by rw [z] at hd; omega)]
   congr 1
   refine sum_eq' fun c hc=>?_
   obtain ⟨w1,w2,w3⟩:=(mem_kids g R v0 v1).mp hc
   have dk:=R.pos w1.1 w1.2 w2
   have dl:=dep_lt R w1.1 w1.2
   rw [w3] at dk
   rw [ih (m.toNat - dep c) (by omega) c rfl w1.1 w1.2 (by omega)]
theorem Chg.at (g:Good m rs) (R:Rooted m rs r par dep) {c0 dc dp:Int} (C:Chg m r par held held' c0 dc dp):gat m rs r par dep held' con c0=gat m rs r par dep held con c0 + dc:=by
 rw [gat_step g R C.rng.1 C.rng.2,gat_step g R C.rng.1 C.rng.2,C.own]
 have:((kidsOf m rs (front r par c0) c0).map fun c=>con c (gat m rs r par dep held' con c)).sum=((kidsOf m rs (front r par c0) c0).map fun c=>con c (gat m rs r par dep held con c)).sum:=by
   refine sum_eq' fun c hc=>?_
   obtain ⟨w1,w2,w3⟩:=(mem_kids g R C.rng.1 C.rng.2).mp hc
   have dk:=R.pos w1.1 w1.2 w2
   rw [w3] at dk
   rw [C.deep g R _ c rfl w1.1 w1.2 (by omega)]
 rw [this]
 omega
theorem Chg.side (g:Good m rs) (R:Rooted m rs r par dep) {c0 dc dp:Int} (C:Chg m r par held held' c0 dc dp) {v:Int} (v0:0≤v) (v1:v < m) (hd:dep v=dep c0) (hv:v≠c0):gat m rs r par dep held' con v=gat m rs r par dep held con v:=by
 have dc0:=R.pos C.rng.1 C.rng.2 C.nr
 rw [gat_step g R v0 v1,gat_step g R v0 v1,C.oth v v0 v1 hv (fun z=>by rw [z] at hd; omega)]
 congr 1
 refine sum_eq' fun c hc=>?_
 obtain ⟨w1,w2,w3⟩:=(mem_kids g R v0 v1).mp hc
 have dk:=R.pos w1.1 w1.2 w2
 rw [w3] at dk
 rw [C.deep g R _ c rfl w1.1 w1.2 (by omega)]
theorem Chg.ahead (g:Good m rs) (R:Rooted m rs r par dep) {c0 dc dp:Int} (C:Chg m r par held held' c0 dc dp):gat m rs r par dep held' con (par c0)=gat m rs r par dep held con (par c0) + (dp + con c0 (gat m rs r par dep held con c0 + dc) - con c0 (gat m rs r par dep held con c0)):=by
 have u:=R.up c0 C.rng.1 C.rng.2 C.nr
 rw [gat_step g R u.1.1 u.1.2,gat_step (held:=held) g R u.1.1 u.1.2,C.up]
 have:=sum_but (c0:=c0) (f:=fun c=>con c (gat m rs r par dep held' con c)) (h:=fun c=>con c (gat m rs r par dep held con c)) (l:=kidsOf m rs (front r par (par c0)) (par c0)) kids_nodup ((mem_kids g R u.1.1 u.1.2).mpr ⟨C.rng,C.nr,rfl⟩) fun c hc hne=>by
   obtain ⟨w1,w2,w3⟩:=(mem_kids g R u.1.1 u.1.2).mp hc
   have dk:=R.pos w1.1 w1.2 w2
   have dc0:=R.pos C.rng.1 C.rng.2 C.nr
   rw [w3] at dk
   show con c _=con c _
   rw [C.side g R w1.1 w1.2 (by omega) hne]
 rw [this,C.at g R]
 omega
theorem Chg.le (g:Good m rs) (R:Rooted m rs r par dep) (hc:∀ v x y,x≤y→con v x≤con v y) {c0 dc dp:Int} (C:Chg m r par held held' c0 dc dp) (key:dp + con c0 (gat m rs r par dep held con c0 + dc)≤con c0 (gat m rs r par dep held con c0)):∀ (n:Nat) (v:Int),dep c0 - dep v=n→0≤v→v < m→v≠c0→gat m rs r par dep held' con v≤gat m rs r par dep held con v:=by
 intro n
 induction n with
 | zero =>
   intro v hn v0 v1 hv
   by_cases z:dep v=dep c0
   · exact Int.le_of_eq (C.side g R v0 v1 z hv)
   · exact Int.le_of_eq (C.deep g R _ v rfl v0 v1 (by omega))
 | succ n ih =>
   intro v hn v0 v1 hv
   by_cases z:v=par c0
   · rw [z,C.ahead g R]
     omega
   · rw [gat_step g R v0 v1,gat_step (held:=held) g R v0 v1,C.oth v v0 v1 hv z]
     have:=sum_le' (f:=fun c=>con c (gat m rs r par dep held' con c)) (h:=fun c=>con c (gat m rs r par dep held con c)) (l:=kidsOf m rs (front r par v) v) fun c hk=>by
       obtain ⟨w1,w2,w3⟩:=(mem_kids g R v0 v1).mp hk
       have dk:=R.pos w1.1 w1.2 w2
       rw [w3] at dk
       exact hc c _ _ (ih c (by omega) w1.1 w1.2 fun w=>z (by rw [← w,w3]))
     omega
theorem Chg.eq (g:Good m rs) (R:Rooted m rs r par dep) {c0 dc dp:Int} (C:Chg m r par held held' c0 dc dp) (key:dp + con c0 (gat m rs r par dep held con c0 + dc)=con c0 (gat m rs r par dep held con c0)):∀ (n:Nat) (v:Int),dep c0 - dep v=n→0≤v→v < m→v≠c0→gat m rs r par dep held' con v=gat m rs r par dep held con v:=by
 intro n
 induction n with
 | zero =>
   intro v hn v0 v1 hv
   by_cases z:dep v=dep c0
   · exact C.side g R v0 v1 z hv
   · exact C.deep g R _ v rfl v0 v1 (by omega)
 | succ n ih =>
   intro v hn v0 v1 hv
   by_cases z:v=par c0
   · rw [z,C.ahead g R]
     omega
   · rw [gat_step g R v0 v1,gat_step (held:=held) g R v0 v1,C.oth v v0 v1 hv z]
     congr 1
     refine sum_eq' fun c hk=>?_
     obtain ⟨w1,w2,w3⟩:=(mem_kids g R v0 v1).mp hk
     have dk:=R.pos w1.1 w1.2 w2
     rw [w3] at dk
     rw [ih c (by omega) w1.1 w1.2 fun w=>z (by rw [← w,w3])]
theorem step_chg (g:Good m rs) (R:Rooted m rs r par dep) {xs:List Int} (xl:(xs.length:Int)=m) {s:Stp} (is:isStp m rs s=true) :
   (s.1≠r∧par s.1=s.2.1∧Chg m r par (fun v=>xs.getD v.toNat 0) (fun v=>(stepL rs xs s).getD v.toNat 0) s.1 (-(s.2.2 * tollD rs s.1 s.2.1)) s.2.2) ∨
   (s.2.1≠r∧par s.2.1=s.1∧Chg m r par (fun v=>xs.getD v.toNat 0) (fun v=>(stepL rs xs s).getD v.toNat 0) s.2.1 s.2.2 (-(s.2.2 * tollD rs s.1 s.2.1))):=by
 obtain ⟨ar,nb,n1⟩:=isStp_of is
 have ad:=(mem_nbrs g).mp nb
 have br:=(g.adj ad).2.1
 have ab:=(g.adj ad).2.2
 have ga:(stepL rs xs s).getD s.1.toNat 0=xs.getD s.1.toNat 0 + -(s.2.2 * tollD rs s.1 s.2.1):=by
   unfold stepL
   rw [getD_set _ _ _ _ (by rw [List.length_set]; omega),if_neg (by omega),getD_set _ _ _ _ (by omega),if_pos rfl]
   omega
 have gb:(stepL rs xs s).getD s.2.1.toNat 0=xs.getD s.2.1.toNat 0 + s.2.2:=by
   unfold stepL
   rw [getD_set _ _ _ _ (by rw [List.length_set]; omega),if_pos rfl,getD_set _ _ _ _ (by omega),if_neg (by omega)]
 have go:∀ v:Int,0≤v→v≠s.1→v≠s.2.1→(stepL rs xs s).getD v.toNat 0=xs.getD v.toNat 0:=fun v v0 h1 h2=>by
   unfold stepL
   rw [getD_set _ _ _ _ (by rw [List.length_set]; omega),if_neg (by omega),getD_set _ _ _ _ (by omega),if_neg (by omega)]
 rcases R.adj ad with ⟨h1,h2⟩ | ⟨h1,h2⟩
 · exact .inr ⟨h1,h2,br,h1,gb,by rw [h2]; exact ga,fun v v0 _ w1 w2=>go v v0 (by rw [h2] at w2; exact w2) w1⟩
 · exact .inl ⟨h1,h2,ar,h1,ga,by rw [h2]; exact gb,fun v v0 _ w1 w2=>go v v0 w1 (by rw [h2] at w2; exact w2)⟩
end
end Pb
set_option Elab.async false
set_option linter.all false
set_option maxRecDepth 100000
namespace L2
open PySem PySem.Spec PyProof.Rows
end L2
namespace Pb
open L2 PySem
theorem canDo_is {m:Int} {rs:List Road} {xs:List Int} {s:Stp} (h:canDo m rs xs s=true):isStp m rs s=true∧s.2.2 * tollD rs s.1 s.2.1≤xs.getD s.1.toNat 0:=by
 unfold canDo at h
 rw [Bool.and_eq_true] at h
 exact ⟨h.1,of_decide_eq_true h.2⟩
theorem step_nn {m:Int} {rs:List Road} (g:Good m rs) {xs:List Int} (xl:(xs.length:Int)=m) (x0:∀ x∈xs,0≤x) {s:Stp} (h:canDo m rs xs s=true):∀ x∈stepL rs xs s,0≤x:=by
 obtain ⟨is,le⟩:=canDo_is h
 obtain ⟨ar,nb,n1⟩:=isStp_of is
 have h1:∀ x∈xs.set s.1.toNat (xs.getD s.1.toNat 0 - s.2.2 * tollD rs s.1 s.2.1),0≤x:=ge_set x0 (by omega)
 unfold stepL
 exact ge_set h1 (by have:=ge_getD h1 s.2.1.toNat; omega)
end Pb
set_option Elab.async false
set_option linter.all false
set_option maxRecDepth 100000
namespace Pb
open L2 PySem
section
variable {m:Int} {rs:List Road}
theorem sum_set:∀ (l:List Int) (i:Nat) (v:Int),i < l.length→(l.set i v).sum=l.sum - l.getD i 0 + v
 | [],i,v,h=>by simp at h
 | a :: l,0,v,_=>by simp; omega
 | a :: l,i + 1,v,h=>by
   have ih:=sum_set l i v (by simpa using h)
   have e:(a :: l).getD (i + 1) 0=l.getD i 0:=by simp [List.getD]
   rw [List.set_cons_succ,List.sum_cons,List.sum_cons,ih,e]
   omega
end
def AtX (c:Bool) (H:Hp) (a:Addr) (xs:List V):Prop:=H a=some (if c then .lst xs else .tup xs)
theorem AtX.sq {K:PySem.W.Frag} {c:Bool} {H:Hp} {a:Addr} {xs:List V} (h:AtX c H a xs):SqX K c H a xs:=by
 cases c
 · exact SqT.of h
 · exact SqL.of h
end Pb
set_option Elab.async false
set_option linter.all false
set_option maxRecDepth 100000
namespace L2
open PySem PySem.Spec PyProof.Rows
section
variable {X:Cx} {i o:Expr} {ty td:TE}
def tDInN (ty td:TE):TE:=fun σ H Q=>ty σ H fun y H1=>td σ H1 fun x H2=>∃ a,x=.ref a∧((∃ o,DGet H2 a y o∧Q (.bl o.isSome) H2)∨(y=.non∧(∃ kvs,H2 a=some (.dK kvs))∧Q (.bl false) H2))
end
end L2
set_option Elab.async false
set_option linter.all false
set_option maxRecDepth 100000
namespace Pb
open L2 PySem
section
variable {m:Int} {rs:List Road} {r b:Int} {par:Int→Int} {dep:Int→Nat}
end
end Pb
namespace L2
theorem cutS {A B:TS} {D:Ends} {σ:St} {H:Hp} (h:∀ N:St→Hp→Prop,(∀ σ' H',B D σ' H'→N σ' H')→A { D with nx:=N } σ H):tSeq A B D σ H:=h (B D) fun _ _ z=>z
end L2
set_option Elab.async false
set_option linter.all false
set_option maxRecDepth 100000
namespace L2
open PySem
theorem for_listH {K:PySem.W.Frag} {a:Addr} {xs:List V} {g:TG} {tb:TS} {D:Ends} {σ:St} {H:Hp} (Pv:Nat→St→Hp→Prop) (h0:Pv 0 σ H) (hl:∀ i σ H,i≤xs.length→Pv i σ H→SqL K H a xs)
   (hs:∀ (i:Nat) (x:V) (σ:St) (H:Hp) (N B:St→Hp→Prop),(∀ σ H,(g x σ H fun σ2 H2=>tb { D with nx:=N,ct:=N,bk:=D.nx } σ2 H2)→B σ H)→(∀ σ' H',Pv (i + 1) σ' H'→N σ' H')→xs[i]?=some x→Pv i σ H→B σ H)
   (hd:∀ (B:St→Hp→Prop) σ H,(∀ σ H,D.nx σ H→B σ H)→Pv xs.length σ H→B σ H):ForGo (Itl K a) D g tb σ H :=
 for_listN Pv h0 hl (fun i x σ H N hN hx p=>hs i x σ H N (fun σ H=>g x σ H fun σ2 H2=>tb { D with nx:=N,ct:=N,bk:=D.nx } σ2 H2) (fun _ _ z=>z) hN hx p) fun σ H p=>hd (fun σ H=>D.nx σ H) σ H (fun _ _ z=>z) p
theorem while_H {c:TT} {tb:TS} {D:Ends} {σ:St} {H:Hp} (W:Nat→St→Hp→Prop) (n0:Nat) (h0:W n0 σ H)
   (hs:∀ (n:Nat) (σ:St) (H:Hp) (N:St→Hp→Prop) (B:Nat→St→Hp→Prop),(∀ n σ H,(c σ H fun b H1=>if b=true then ∃ N:St→Hp→Prop,(∀ σ' H',N σ' H'→∃ m',m' < n∧W m' σ' H')∧tb { D with nx:=N,ct:=N,bk:=D.nx } σ H1 else D.nx σ H1)→B n σ H)→(∀ n' σ' H',n' < n→W n' σ' H'→N σ' H')→(∀ σ' H',N σ' H'→∃ m',m' < n∧W m' σ' H')→W n σ H→B n σ H):tWhile c tb D σ H :=
 while_n W n0 h0 fun n σ H N hN hN2 w=>hs n σ H N (fun n σ H=>c σ H fun b H1=>if b=true then ∃ N:St→Hp→Prop,(∀ σ' H',N σ' H'→∃ m',m' < n∧W m' σ' H')∧tb { D with nx:=N,ct:=N,bk:=D.nx } σ H1 else D.nx σ H1) (fun _ _ _ z=>z) hN hN2 w
theorem ex6 {α0:Sort _} {α1:Sort _} {α2:Sort _} {α3:Sort _} {α4:Sort _} {α5:Sort _} {P:α0→α1→α2→α3→α4→α5→Prop} (a0:α0) (a1:α1) (a2:α2) (a3:α3) (a4:α4) (a5:α5) (h:P a0 a1 a2 a3 a4 a5):∃ a0 a1 a2 a3 a4 a5,P a0 a1 a2 a3 a4 a5:=⟨a0,a1,a2,a3,a4,a5,h⟩
theorem an4 {p0 p1 p2 p3:Prop} (h0:p0) (h1:p1) (h2:p2) (h3:p3):p0∧p1∧p2∧p3:=⟨h0,h1,h2,h3⟩
end L2
set_option Elab.async false
set_option linter.all false
set_option maxRecDepth 100000
namespace Pb
open L2 PySem
section
variable {m:Int} {rs:List Road} {r:Int} {par:Int→Int} {dep:Int→Nat}
variable {para parb parc:Int→Int} {depa depb depc:Int→Nat} {a b c:Int}
end
section
variable {m:Int} {rs:List Road} {r b:Int} {par:Int→Int} {dep:Int→Nat}
end
end Pb
set_option Elab.async false
set_option linter.all false
set_option maxRecDepth 100000
namespace Pb
open L2 PySem
section
variable {m:Int} {rs:List Road} {r b:Int} {par:Int→Int} {dep:Int→Nat}
end
end Pb
set_option Elab.async false
set_option linter.all false
namespace L2
open PySem
end L2
namespace Pb
open PySem L2
def vPr (r:Int) (par:Int→Int) (v:Int):List V:=[.int v,front r par v]
abbrev PrsAt (H:Hp) (r:Int) (par:Int→Int):List Addr→List Int→Prop:=Paired fun q v=>H q=some (.tup (vPr r par v))
theorem PrsAt.same {H H':Hp} {r:Int} {par:Int→Int} {qs:List Addr} {vs:List Int} (e:Same H H') (h:PrsAt H r par qs vs):PrsAt H' r par qs vs:=Paired.imp' (fun q v x=>e q _ x) h
theorem PrsAt.get {H:Hp} {r:Int} {par:Int→Int}:∀ {ps:List Addr} {vs:List Int} {i:Nat} {x:V},PrsAt H r par ps vs→(ps.map V.ref)[i]?=some x→∃ p v,x=.ref p∧ps[i]?=some p∧vs[i]?=some v∧H p=some (.tup (vPr r par v))
 | _,_,i,x,.nil,e=>by simp at e
 | _,_,0,x,.cons (a:=p) (b:=r) h hs,e=>⟨p,r,by simpa using e.symm,by simp,by simp,h⟩
 | a :: l1,_,i + 1,x,.cons h hs,e=>by
   have e':(List.map V.ref l1)[i]?=some x:=by simpa using e
   obtain ⟨p,r,h1,h2,h3,h4⟩:=PrsAt.get hs e'
   exact ⟨p,r,h1,by simpa using h2,by simpa using h3,h4⟩
theorem PrsAt.snoc {H:Hp} {r:Int} {par:Int→Int} {q:Addr} {v:Int} (e:H q=some (.tup (vPr r par v))):∀ {qs:List Addr} {vs:List Int},PrsAt H r par qs vs→PrsAt H r par (qs ++ [q]) (vs ++ [v])
 | _,_,.nil=>.cons e .nil
 | _,_,.cons x xs=>.cons x (PrsAt.snoc e xs)
end Pb
set_option Elab.async false
set_option linter.all false
set_option maxRecDepth 100000
set_option exponentiation.threshold 5000
namespace Pb
open L2 PySem
section
variable {m:Int} {rs:List Road} {r:Int} {par:Int→Int} {dep:Int→Nat}
variable {op:Int→Int→Int} {held:Int→Int} {con:Int→Int→Int}
end
end Pb
set_option Elab.async false
set_option linter.all false
set_option maxRecDepth 100000
namespace L2
open PySem PySem.Spec PyProof.Rows
section
variable {X:Cx}
end
end L2
namespace Pb
end Pb
set_option Elab.async false
set_option linter.all false
set_option maxRecDepth 100000
namespace L2
open PySem PySem.Spec PyProof.Rows
section
variable {X:Cx}
end
end L2
set_option Elab.async false
set_option linter.all false
set_option maxRecDepth 100000
namespace L2
open PySem PySem.Spec PyProof.Rows
section
variable {P:Program} {w:World} {A:Around} {R:Result→Shared→Prop} {I S:Addr} {fp wr:List Addr} {n:Nat} {Pv:Nat→Value→Prop} {St:Nat→Heap→Prop} {bt:Nat→Nat→Bool} {kw:List (Str × Value)}
end
section
variable {X:Cx} {x:Str} {p pos kpos:Pos} {e de:Expr} {t tk:TA}
def tMinD (K:PySem.W.Frag) (t tk:TA):TE:=fun σ H Q=>t σ H fun vs H1=>tk σ H1 fun zs H2=>∃ (q:Addr) (ns:List Int) (d:V),vs=[.ref q]∧zs=[d]∧SqL K H2 q (ns.map V.int)∧ns≠[]∧∀ y,y∈ns→(∀ x∈ns,y≤x)→Q (.int y) H2
def tNotT (t:TE):TE:=fun σ H Q=>t σ H fun x H1=>∃ b,x=.bl b∧Q (.bl (b != true)) H1
end
end L2
set_option Elab.async false
set_option linter.all false
set_option maxRecDepth 100000
namespace Pb
open L2 PySem
section
variable {m:Int} {rs:List Road} {r:Int} {par:Int→Int} {dep:Int→Nat}
variable {ch:Int→Option Int} {w:Int} {cn:Int→Int}
end
end Pb
set_option Elab.async false
set_option linter.all false
set_option maxRecDepth 100000
namespace L2
open PySem PySem.Spec PyProof.Rows PySem.W
section
variable {n:Nat}
variable (hn:0 < n)
include hn
end
section
variable {prog:Program} {w:World} {A:Around} {E:Value→Shared→Prop} {s:Shared}
end
end L2
set_option Elab.async false
set_option linter.all false
set_option maxRecDepth 100000
namespace L2
open PySem PySem.Spec PyProof.Rows PySem.W Pb
section
variable {prog:Program} {w:World} {A:Around} {E:Value→Shared→Prop} {s:Shared} {it d:Addr} {i ep:Nat} {es:Array DictEntry}
end
section
variable {prog:Program} {w:World} {A:Around} {E:Value→Shared→Prop} {s:Shared} {fin:Bool} {C:Bool→Shared→Prop}
end
section
variable {prog:Program} {w:World} {A:Around} {E:Value→Shared→Prop} {s:Shared}
end
section
variable {X:Cx}
end
end L2
set_option Elab.async false
set_option linter.all false
set_option maxRecDepth 100000
namespace L2
theorem mem_putK {κ:Type} [DecidableEq κ] {kvs:List (κ × V)} {k:κ} {v:V} {p:κ × V} (h:p∈putK kvs k v):p.1=k∨∃ q∈kvs,p.1=q.1:=by
 unfold putK at h
 split at h
 · obtain ⟨q,hq,e⟩:=List.mem_map.mp h
   refine .inr ⟨q,hq,?_⟩
   rw [← e]
   split <;> rfl
 · rcases List.mem_append.mp h with h | h
   · exact .inr ⟨p,h,rfl⟩
   · rw [List.mem_singleton.mp h]; exact .inl rfl
end L2
namespace Pb
open L2 PySem
section
variable {m:Int} {rs:List Road} {r:Int} {par:Int→Int} {dep:Int→Nat}
theorem hnd_mono (g:Good m rs) (v x y:Int) (h:x≤y):hnd rs par v x≤hnd rs par v y:=by
 have pos:∀ a b:Int,0 < (tollOf rs a b).getD 1:=fun a b=>by
   cases e:tollOf rs a b with
   | none=>decide
   | some k =>
     obtain ⟨k',e',h2,_⟩:=toll_rng g (toll_adj.mp (show (tollOf rs a b).isSome=true by rw [e]; rfl))
     rw [e] at e'
     cases e'
     show 0 < k
     omega
 have p1:=pos v (par v)
 have p2:=pos (par v) v
 unfold hnd
 by_cases c:0≤x
 · rw [if_pos c,if_pos (by omega)]
   exact Int.ediv_le_ediv p1 h
 · rw [if_neg c]
   by_cases c2:0≤y
   · rw [if_pos c2]
     have a1:0≤y / (tollOf rs v (par v)).getD 1:=Int.ediv_nonneg c2 (by omega)
     have a2:x * (tollOf rs (par v) v).getD 1≤0:=Int.mul_nonpos_of_nonpos_of_nonneg (by omega) (by omega)
     omega
   · rw [if_neg c2]
     exact Int.mul_le_mul_of_nonneg_right h (by omega)
theorem hnd_step {x n k k':Int} (n0:1≤n) (k2:2≤k) (k2':2≤k'):(n + (if 0≤x + -(n * k) then (x + -(n * k)) / k else (x + -(n * k)) * k')≤if 0≤x then x / k else x * k') ∧
   (-(n * k) + (if 0≤x + n then (x + n) / k' else (x + n) * k)≤if 0≤x then x / k' else x * k):=by
 have nk:n * 2≤n * k:=Int.mul_le_mul_of_nonneg_left k2 (by omega)
 have nk':n * 2≤n * k':=Int.mul_le_mul_of_nonneg_left k2' (by omega)
 constructor
 · by_cases c1:0≤x + -(n * k)
   · rw [if_pos c1,if_pos (by omega),← Int.neg_mul,Int.add_mul_ediv_right _ _ (by omega)]
     omega
   · rw [if_neg c1]
     by_cases c2:0≤x
     · rw [if_pos c2]
       have q1:=Int.mul_ediv_add_emod x k
       have q2:=Int.emod_lt_of_pos x (show 0 < k by omega)
       have q3:=Int.emod_nonneg x (show k≠0 by omega)
       have q4:x / k < n:=by
         rw [Int.ediv_lt_iff_lt_mul (by omega)]
         omega
       have e1:k * (x / k - n)=k * (x / k) - n * k:=by rw [Int.mul_sub,Int.mul_comm k n]
       have e3:x + -(n * k)≤k * (x / k - n + 1) - 1:=by
         have:k * (x / k - n + 1)=k * (x / k - n) + k:=by rw [Int.mul_add,Int.mul_one]
         omega
       have e4:k * (x / k - n + 1)≤2 * (x / k - n + 1):=by
         have:=Int.mul_le_mul_of_nonpos_right k2 (show x / k - n + 1≤0 by omega)
         omega
       have e5:x + -(n * k)≤(x / k - n):=by omega
       have e6:(x + -(n * k)) * k'≤(x / k - n) * k':=Int.mul_le_mul_of_nonneg_right e5 (by omega)
       have e7:(x / k - n) * k'≤(x / k - n) * 1:=Int.mul_le_mul_of_nonpos_left (show x / k - n≤0 by omega) (show 1≤k' by omega)
       omega
     · rw [if_neg c2]
       have e1:(x + -(n * k)) * k'=x * k' + -(n * k) * k':=Int.add_mul ..
       have e2:-(n * k) * k'≤-(n * k) * 1:=Int.mul_le_mul_of_nonpos_left (show -(n * k)≤0 by omega) (show 1≤k' by omega)
       omega
 · by_cases c1:0≤x
   · rw [if_pos c1,if_pos (by omega)]
     have a1:(x + n) / k'≤(x + n * k') / k':=Int.ediv_le_ediv (by omega) (by omega)
     rw [Int.add_mul_ediv_right _ _ (by omega)] at a1
     omega
   · rw [if_neg c1]
     by_cases c2:0≤x + n
     · rw [if_pos c2]
       have a1:(x + n) / k'≤x + n:=Int.ediv_le_self _ c2
       have a2:(-x) * 2≤(-x) * k:=Int.mul_le_mul_of_nonneg_left k2 (by omega)
       have a3:(n + x) * 2≤(n + x) * k:=Int.mul_le_mul_of_nonneg_left k2 (by omega)
       have a4:(n + x) * k=n * k + x * k:=Int.add_mul ..
       omega
     · rw [if_neg c2,Int.add_mul]
       omega
theorem help_step (g:Good m rs) (R:Rooted m rs r par dep) (r0:0≤r) (r1:r < m) {xs ys:List Int} (xl:(xs.length:Int)=m) {s:Stp} (is:isStp m rs s=true) :
   gat m rs r par dep (fun v=>(overL m (stepL rs xs s) ys).getD v.toNat 0) (hnd rs par) r≤gat m rs r par dep (fun v=>(overL m xs ys).getD v.toNat 0) (hnd rs par) r:=by
 obtain ⟨ar,nb,n1⟩:=isStp_of is
 have ad:=(mem_nbrs g).mp nb
 have br:=(g.adj ad).2.1
 obtain ⟨k,ek,k0,k1⟩:=toll_rng g ad
 obtain ⟨k',ek',k0',k1'⟩:=toll_rng g ad.symm
 have td:tollD rs s.1 s.2.1=k:=by unfold tollD; rw [ek]; rfl
 have ov:∀ (zs:List Int) (v:Int),0≤v→v < m→(overL m zs ys).getD v.toNat 0=zs.getD v.toNat 0 - ys.getD v.toNat 0:=fun zs v v0 v1=>by
   unfold overL
   rw [List.getD,List.getElem?_map,List.getElem?_range (by omega)]
   rfl
 have cv:∀ {c dc dp:Int},0≤par c∧par c < m→Chg m r par (fun v=>xs.getD v.toNat 0) (fun v=>(stepL rs xs s).getD v.toNat 0) c dc dp→Chg m r par (fun v=>(overL m xs ys).getD v.toNat 0) (fun v=>(overL m (stepL rs xs s) ys).getD v.toNat 0) c dc dp:=fun {c dc dp} pr C=>by
   refine ⟨C.rng,C.nr,?_,?_,fun v v0 v1 w1 w2=>?_⟩
   · show (overL m (stepL rs xs s) ys).getD c.toNat 0=(overL m xs ys).getD c.toNat 0 + dc
     rw [ov _ c C.rng.1 C.rng.2,ov _ c C.rng.1 C.rng.2]
     have:=C.own
     omega
   · show (overL m (stepL rs xs s) ys).getD (par c).toNat 0=(overL m xs ys).getD (par c).toNat 0 + dp
     rw [ov _ _ pr.1 pr.2,ov _ _ pr.1 pr.2]
     have:=C.up
     omega
   · show (overL m (stepL rs xs s) ys).getD v.toNat 0=(overL m xs ys).getD v.toNat 0
     rw [ov _ v v0 v1,ov _ v v0 v1]
     have:=C.oth v v0 v1 w1 w2
     omega
 rcases step_chg g R xl is with ⟨h1,h2,C⟩ | ⟨h1,h2,C⟩
 · refine (cv (by rw [h2]; exact br) C).le g R (hnd_mono g) ?_ _ r rfl r0 r1 fun z=>h1 z.symm
   unfold hnd
   rw [h2,ek,ek',td]
   exact (hnd_step n1 k0 k0').1
 · refine (cv (by rw [h2]; exact ar) C).le g R (hnd_mono g) ?_ _ r rfl r0 r1 fun z=>h1 z.symm
   unfold hnd
   rw [h2,ek,ek',td]
   exact (hnd_step n1 k0 k0').2
theorem over_at {zs ys:List Int} (i:Nat):(overL m zs ys).getD i 0=if i < m.toNat then zs.getD i 0 - ys.getD i 0 else 0:=by
 unfold overL
 by_cases c:i < m.toNat
 · rw [if_pos c,List.getD,List.getElem?_map,List.getElem?_range c]
   rfl
 · rw [if_neg c,List.getD,List.getElem?_map,List.getElem?_eq_none (by rw [List.length_range]; omega)]
   rfl
theorem gat_off (g:Good m rs) (R:Rooted m rs r par dep) {held held':Int→Int} {con:Int→Int→Int} (hh:∀ v,0≤v→v < m→v≠r→held' v=held v):∀ (n:Nat) (v:Int),m.toNat - dep v=n→0≤v→v < m→v≠r→gat m rs r par dep held' con v=gat m rs r par dep held con v:=by
 intro n
 induction n using Nat.strongRecOn with
 | _ n ih =>
   intro v hn v0 v1 hv
   rw [gat_step g R v0 v1,gat_step (held:=held) g R v0 v1,hh v v0 v1 hv]
   congr 1
   refine sum_eq' fun c hc=>?_
   obtain ⟨w1,w2,w3⟩:=(mem_kids g R v0 v1).mp hc
   have dk:=R.pos w1.1 w1.2 w2
   have dl:=dep_lt R w1.1 w1.2
   rw [w3] at dk
   rw [ih (m.toNat - dep c) (by omega) c rfl w1.1 w1.2 w2]
theorem gat_root (g:Good m rs) (R:Rooted m rs r par dep) (r0:0≤r) (r1:r < m) {held held':Int→Int} {con:Int→Int→Int} (hh:∀ v,0≤v→v < m→v≠r→held' v=held v):gat m rs r par dep held' con r=gat m rs r par dep held con r + (held' r - held r):=by
 rw [gat_step g R r0 r1,gat_step (held:=held) g R r0 r1]
 have:((kidsOf m rs (front r par r) r).map fun c=>con c (gat m rs r par dep held' con c)).sum=((kidsOf m rs (front r par r) r).map fun c=>con c (gat m rs r par dep held con c)).sum:=sum_eq' fun c hc=>by
   obtain ⟨w1,w2,w3⟩:=(mem_kids g R r0 r1).mp hc
   rw [gat_off g R hh _ c rfl w1.1 w1.2 w2]
 rw [this]
 omega
end
def stdL (m:Int) (rs:List Road) (PAR:Int→Int→Int) (DEP:Int→Int→Nat) (xs ys:List Int) (i:Nat):List Int:=(below i).map fun r=>gat m rs r (PAR r) (DEP r) (fun v=>(overL m xs ys).getD v.toNat 0) (hnd rs (PAR r)) r
theorem stdL_len {m:Int} {rs:List Road} {PAR:Int→Int→Int} {DEP:Int→Int→Nat} {xs ys:List Int} {i:Nat}:(stdL m rs PAR DEP xs ys i).length=i:=by unfold stdL; rw [List.length_map,below_length]
section
end
end Pb
set_option Elab.async false
set_option linter.all false
set_option maxRecDepth 100000
namespace L2
open PySem PySem.Spec PyProof.Rows
def tDispT (tk tv:TE):TE:=fun σ H Q=>∀ p,H p=none→tPairs [(tk,tv)] σ (upd H p (.dT [])) fun ps H2=>H2 p=some (.dT [])∧∃ (k:List Key) (b:Addr) (y:V),ps=[(.ref b,y)]∧H2 b=some (.tup (k.map kV))∧Q (.ref p) (upd H2 p (.dT [(k,y)]))
end L2
set_option Elab.async false
set_option linter.all false
set_option maxRecDepth 100000
namespace Pb
open L2 PySem
inductive Come (m:Int) (rs:List Road) (xs:List Int):List Int→Prop
 | start:Come m rs xs xs
 | step {z:List Int} {a b:Int}:Come m rs xs z→canDo m rs z (a,b,1)=true→Come m rs xs (stepL rs z (a,b,1))
theorem sum_nn:∀ {z:List Int},(∀ x∈z,0≤x)→0≤z.sum
 | [],_=>Int.le_refl 0
 | x :: z,h=>by
   have h1:=h x (.head _)
   have h2:=sum_nn fun y hy=>h y (.tail _ hy)
   rw [List.sum_cons]
   omega
end Pb
namespace Pb
open L2 PySem
section
variable {m:Int} {rs:List Road} {xs:List Int}
theorem Come.len {z:List Int} (h:Come m rs xs z):z.length=xs.length:=by
 induction h with
 | start=>rfl
 | step _ _ ih=>rw [stepL_len]; exact ih
variable {r:Int} {par:Int→Int} {dep:Int→Nat}
end
end Pb
set_option Elab.async false
set_option linter.all false
set_option maxRecDepth 100000
namespace L2
open PySem PySem.Spec PyProof.Rows Pb
section
variable {X:Cx}
end
end L2
set_option Elab.async false
set_option linter.all false
set_option maxRecDepth 100000
namespace L2
open PySem PySem.Spec PyProof.Rows
end L2
namespace Pb
end Pb
namespace L2
open PySem Pb
end L2
namespace L2
open PySem
end L2
namespace L2
open PySem
end L2
namespace L2
open PySem PySem.Spec PyProof.Rows Pb
end L2
namespace L2
open PySem
end L2
set_option Elab.async false
set_option linter.all false
set_option maxRecDepth 100000
namespace Pb
open L2 PySem
theorem least_of {P:Int→Prop} (f:Int→Nat):∀ (n:Nat) (v:Int),f v=n→P v→∃ v,P v∧∀ u,P u→f v≤f u:=by
 intro n
 induction n using Nat.strongRecOn with
 | _ n ih =>
   intro v hn hp
   by_cases c:∃ u,P u∧f u < f v
   · obtain ⟨u,h1,h2⟩:=c
     exact ih (f u) (by omega) u rfl h1
   · exact ⟨v,hp,fun u hu=>Nat.le_of_not_lt fun h=>c ⟨u,hu,h⟩⟩
theorem sum_np:∀ {l:List Int},(∀ x∈l,x≤0)→l.sum≤0
 | [],_=>Int.le_refl 0
 | x :: l,h=>by
   have h1:=h x (.head _)
   have h2:=sum_np fun y hy=>h y (.tail _ hy)
   rw [List.sum_cons]
   omega
theorem sum_np_le:∀ {l:List Int} {y:Int},(∀ x∈l,x≤0)→y∈l→l.sum≤y
 | x :: l,y,h,hy=>by
   have h1:=h x (.head _)
   have h2:=sum_np fun y hy=>h y (.tail _ hy)
   rw [List.sum_cons]
   rcases List.mem_cons.mp hy with e | e
   · omega
   · have:=sum_np_le (fun y hy=>h y (.tail _ hy)) e
     omega
theorem sum_noughts:∀ {l:List Int},(∀ x∈l,x=0)→l.sum=0
 | [],_=>rfl
 | x :: l,h=>by rw [List.sum_cons,h x (.head _),sum_noughts fun y hy=>h y (.tail _ hy)]; rfl
section
variable {m:Int} {rs:List Road} {r:Int} {par:Int→Int} {dep:Int→Nat}
abbrev stg (m:Int) (rs:List Road) (r:Int) (par:Int→Int) (dep:Int→Nat) (ys z:List Int) (v:Int):Int:=gat m rs r par dep (fun v=>(overL m z ys).getD v.toNat 0) (hnd rs par) v
theorem stg_eq (g:Good m rs) (R:Rooted m rs r par dep) {ys z:List Int} {v:Int} (v0:0≤v) (v1:v < m):stg m rs r par dep ys z v=z.getD v.toNat 0 - ys.getD v.toNat 0 + ((kidsOf m rs (front r par v) v).map fun c=>hnd rs par c (stg m rs r par dep ys z c)).sum:=by
 show gat m rs r par dep _ _ v=_
 rw [gat_step g R v0 v1]
 show (overL m z ys).getD v.toNat 0 + _=_
 rw [over_at,if_pos (by omega)]
theorem over_chg {xs ys:List Int} {s:Stp} {c dc dp:Int} (pr:0≤par c∧par c < m) (C:Chg m r par (fun v=>xs.getD v.toNat 0) (fun v=>(stepL rs xs s).getD v.toNat 0) c dc dp):Chg m r par (fun v=>(overL m xs ys).getD v.toNat 0) (fun v=>(overL m (stepL rs xs s) ys).getD v.toNat 0) c dc dp:=by
 have ov:∀ (zs:List Int) (v:Int),0≤v→v < m→(overL m zs ys).getD v.toNat 0=zs.getD v.toNat 0 - ys.getD v.toNat 0:=fun zs v v0 v1=>by
   rw [over_at,if_pos (by omega)]
 refine ⟨C.rng,C.nr,?_,?_,fun v v0 v1 w1 w2=>?_⟩
 · show (overL m (stepL rs xs s) ys).getD c.toNat 0=(overL m xs ys).getD c.toNat 0 + dc
   rw [ov _ c C.rng.1 C.rng.2,ov _ c C.rng.1 C.rng.2]
   have:=C.own
   omega
 · show (overL m (stepL rs xs s) ys).getD (par c).toNat 0=(overL m xs ys).getD (par c).toNat 0 + dp
   rw [ov _ _ pr.1 pr.2,ov _ _ pr.1 pr.2]
   have:=C.up
   omega
 · show (overL m (stepL rs xs s) ys).getD v.toNat 0=(overL m xs ys).getD v.toNat 0
   rw [ov _ v v0 v1,ov _ v v0 v1]
   have:=C.oth v v0 v1 w1 w2
   omega
theorem meet_step (g:Good m rs) (R:Rooted m rs r par dep) (r0:0≤r) (r1:r < m) {z ys:List Int} (zl:(z.length:Int)=m) (y0:∀ y∈ys,0≤y) (s0:0≤stg m rs r par dep ys z r) :
   ((∀ v,0≤v→v < m→ys.getD v.toNat 0≤z.getD v.toNat 0)∧z.getD r.toNat 0 - ys.getD r.toNat 0=stg m rs r par dep ys z r)∨∃ a b,canDo m rs z (a,b,1)=true∧stg m rs r par dep ys (stepL rs z (a,b,1)) r=stg m rs r par dep ys z r:=by
 have yn:∀ v:Int,0≤ys.getD v.toNat 0:=fun v=>ge_getD y0 _
 have tl:∀ v,0≤v→v < m→v≠r→∃ k k',tollOf rs v (par v)=some k∧tollOf rs (par v) v=some k'∧2≤k∧2≤k'∧(0≤par v∧par v < m)∧Adj rs v (par v)∧dep (par v) + 1=dep v:=fun v v0 v1 hv=>by
   obtain ⟨u1,u2,u3⟩:=R.up v v0 v1 hv
   obtain ⟨k,ek,k0,_⟩:=toll_rng g u2
   obtain ⟨k',ek',k0',_⟩:=toll_rng g u2.symm
   exact ⟨k,k',ek,ek',k0,k0',u1,u2,u3⟩
 by_cases cA:∃ v,(0≤v∧v < m∧v≠r)∧(tollOf rs v (par v)).getD 1≤stg m rs r par dep ys z v
 · -- the deepest place that has something to hand on
   obtain ⟨v',hv'⟩:=cA
   obtain ⟨v,⟨⟨v0,v1,vr⟩,hv⟩,mx⟩:=least_of (P:=fun v=>(0≤v∧v < m∧v≠r)∧(tollOf rs v (par v)).getD 1≤stg m rs r par dep ys z v) (fun v=>m.toNat - dep v) _ v' rfl hv'
   obtain ⟨k,k',ek,ek',k0,k0',pr,ad,dp⟩:=tl v v0 v1 vr
   rw [ek] at hv
   have hv:k≤stg m rs r par dep ys z v:=hv
   have np:∀ x∈(kidsOf m rs (front r par v) v).map fun c=>hnd rs par c (stg m rs r par dep ys z c),x≤0:=fun x hx=>by
     obtain ⟨c,hc,rfl⟩:=List.mem_map.mp hx
     obtain ⟨w1,w2,w3⟩:=(mem_kids g R v0 v1).mp hc
     have dk:=R.pos w1.1 w1.2 w2
     have dl:=dep_lt R w1.1 w1.2
     rw [w3] at dk
     obtain ⟨q,q',eq,eq',q0,q0',_⟩:=tl c w1.1 w1.2 w2
     have nc:¬ q≤stg m rs r par dep ys z c:=fun h=>by
       have:=mx c ⟨⟨w1.1,w1.2,w2⟩,by rw [eq]; exact h⟩
       omega
     unfold hnd
     rw [eq,eq']
     show (if 0≤stg m rs r par dep ys z c then stg m rs r par dep ys z c / q else stg m rs r par dep ys z c * q')≤0
     generalize stg m rs r par dep ys z c=G at nc ⊢
     by_cases c0:0≤G
     · rw [if_pos c0,Int.ediv_eq_zero_of_lt c0 (by omega)]
       exact Int.le_refl _
     · rw [if_neg c0]
       exact Int.mul_nonpos_of_nonpos_of_nonneg (by omega) (by omega)
   have e:=stg_eq g R (ys:=ys) (z:=z) v0 v1
   have sp:=sum_np np
   have yv:=yn v
   have td:tollD rs v (par v)=k:=by unfold tollD; rw [ek]; rfl
   have is:isStp m rs (v,par v,1)=true:=by
     unfold isStp
     have nb:=(mem_nbrs g).mpr ad
     simp only [Bool.and_eq_true,decide_eq_true_eq]
     exact ⟨⟨⟨v0,v1⟩,nb⟩,by decide⟩
   refine .inr ⟨v,par v,?_,?_⟩
   · unfold canDo
     rw [is,Bool.true_and,decide_eq_true_eq]
     show 1 * tollD rs v (par v)≤z.getD v.toNat 0
     rw [td]
     omega
   · rcases step_chg g R zl is with ⟨h1,h2,C⟩ | ⟨h1,h2,C⟩
     · refine (over_chg pr C).eq g R ?_ _ r rfl r0 r1 fun w=>vr w.symm
       show 1 + hnd rs par v (stg m rs r par dep ys z v + -(1 * tollD rs v (par v)))=hnd rs par v (stg m rs r par dep ys z v)
       rw [td]
       unfold hnd
       rw [ek]
       generalize stg m rs r par dep ys z v=G at hv ⊢
       rw [if_pos (by omega),if_pos (by omega)]
       show 1 + (G + -(1 * k)) / k=G / k
       rw [← Int.neg_mul,Int.add_mul_ediv_right _ _ (by omega)]
       omega
     · have d2:=R.pos pr.1 pr.2 h1
       simp only at h2
       rw [h2] at d2
       omega
 · have up:∀ v,0≤v→v < m→v≠r→hnd rs par v (stg m rs r par dep ys z v)≤0∧(0≤stg m rs r par dep ys z v→hnd rs par v (stg m rs r par dep ys z v)=0):=fun v v0 v1 vr=>by
     obtain ⟨k,k',ek,ek',k0,k0',pr,ad,dp⟩:=tl v v0 v1 vr
     have nc:¬ k≤stg m rs r par dep ys z v:=fun h=>cA ⟨v,⟨v0,v1,vr⟩,by rw [ek]; exact h⟩
     unfold hnd
     rw [ek,ek']
     show (if 0≤stg m rs r par dep ys z v then stg m rs r par dep ys z v / k else stg m rs r par dep ys z v * k')≤0∧(0≤stg m rs r par dep ys z v→(if 0≤stg m rs r par dep ys z v then stg m rs r par dep ys z v / k else stg m rs r par dep ys z v * k')=0)
     generalize stg m rs r par dep ys z v=G at nc ⊢
     by_cases c0:0≤G
     · rw [if_pos c0,Int.ediv_eq_zero_of_lt c0 (by omega)]
       exact ⟨Int.le_refl _,fun _=>rfl⟩
     · rw [if_neg c0]
       exact ⟨Int.mul_nonpos_of_nonpos_of_nonneg (by omega) (by omega),fun h=>absurd h c0⟩
   by_cases cB:∃ v,(0≤v∧v < m∧v≠r)∧stg m rs r par dep ys z v < 0
   · -- the nearest place that lacks something
     obtain ⟨v',hv'⟩:=cB
     obtain ⟨v,⟨⟨v0,v1,vr⟩,hv⟩,mn⟩:=least_of (P:=fun v=>(0≤v∧v < m∧v≠r)∧stg m rs r par dep ys z v < 0) dep _ v' rfl hv'
     obtain ⟨k,k',ek,ek',k0,k0',pr,ad,dp⟩:=tl v v0 v1 vr
     have pg:0≤stg m rs r par dep ys z (par v):=by
       by_cases c:par v=r
       · rw [c]; exact s0
       · refine Int.le_of_not_gt fun h=>?_
         have:=mn (par v) ⟨⟨pr.1,pr.2,c⟩,h⟩
         omega
     have e:=stg_eq g R (ys:=ys) (z:=z) pr.1 pr.2
     have sp:=sum_np_le (l:=(kidsOf m rs (front r par (par v)) (par v)).map fun c=>hnd rs par c (stg m rs r par dep ys z c)) (y:=hnd rs par v (stg m rs r par dep ys z v)) (fun x hx=>by
       obtain ⟨c,hc,rfl⟩:=List.mem_map.mp hx
       obtain ⟨w1,w2,w3⟩:=(mem_kids g R pr.1 pr.2).mp hc
       exact (up c w1.1 w1.2 w2).1) (List.mem_map.mpr ⟨v,(mem_kids g R pr.1 pr.2).mpr ⟨⟨v0,v1⟩,vr,rfl⟩,rfl⟩)
     have hh:hnd rs par v (stg m rs r par dep ys z v)=stg m rs r par dep ys z v * k':=by
       unfold hnd
       rw [ek',if_neg (by omega)]
       rfl
     have hk:stg m rs r par dep ys z v * k'≤(-1) * k':=Int.mul_le_mul_of_nonneg_right (by omega) (by omega)
     have yv:=yn (par v)
     have td:tollD rs (par v) v=k':=by unfold tollD; rw [ek']; rfl
     have is:isStp m rs (par v,v,1)=true:=by
       unfold isStp
       have nb:=(mem_nbrs g).mpr ad.symm
       simp only [Bool.and_eq_true,decide_eq_true_eq]
       exact ⟨⟨⟨pr.1,pr.2⟩,nb⟩,by decide⟩
     refine .inr ⟨par v,v,?_,?_⟩
     · unfold canDo
       rw [is,Bool.true_and,decide_eq_true_eq]
       show 1 * tollD rs (par v) v≤z.getD (par v).toNat 0
       rw [td]
       omega
     · rcases step_chg g R zl is with ⟨h1,h2,C⟩ | ⟨h1,h2,C⟩
       · have d2:=R.pos pr.1 pr.2 h1
         simp only at h2
         rw [h2] at d2
         omega
       · refine (over_chg pr C).eq g R ?_ _ r rfl r0 r1 fun w=>vr w.symm
         show -(1 * tollD rs (par v) v) + hnd rs par v (stg m rs r par dep ys z v + 1)=hnd rs par v (stg m rs r par dep ys z v)
         rw [td,hh]
         unfold hnd
         rw [ek,ek']
         generalize stg m rs r par dep ys z v=G at hv ⊢
         show -(1 * k') + (if 0≤G + 1 then (G + 1) / k else (G + 1) * k')=G * k'
         by_cases c:0≤G + 1
         · have:G=-1:=by omega
           subst this
           rw [if_pos c]
           show -(1 * k') + 0 / k=-1 * k'
           rw [Int.zero_ediv]
           omega
         · rw [if_neg c,Int.add_mul]
           omega
   · have nn:∀ v,0≤v→v < m→0≤stg m rs r par dep ys z v:=fun v v0 v1=>by
       by_cases c:v=r
       · rw [c]; exact s0
       · exact Int.le_of_not_gt fun h=>cB ⟨v,⟨v0,v1,c⟩,h⟩
     have ev:∀ v,0≤v→v < m→z.getD v.toNat 0 - ys.getD v.toNat 0=stg m rs r par dep ys z v:=fun v v0 v1=>by
       have e:=stg_eq g R (ys:=ys) (z:=z) v0 v1
       rw [sum_noughts fun x hx=>?_] at e
       · omega
       · obtain ⟨c,hc,rfl⟩:=List.mem_map.mp hx
         obtain ⟨w1,w2,w3⟩:=(mem_kids g R v0 v1).mp hc
         exact (up c w1.1 w1.2 w2).2 (nn c w1.1 w1.2)
     refine .inl ⟨fun v v0 v1=>?_,ev r r0 r1⟩
     have h1:=ev v v0 v1
     have h2:=nn v v0 v1
     omega
theorem Come.pre {xs z:List Int} {a b:Int} (c:canDo m rs xs (a,b,1)=true) (h:Come m rs (stepL rs xs (a,b,1)) z):Come m rs xs z:=by
 induction h with
 | start=>exact .step .start c
 | step _ c2 ih=>exact .step ih c2
theorem step_less (g:Good m rs) {z:List Int} (zl:(z.length:Int)=m) {a b:Int} (c:canDo m rs z (a,b,1)=true):(stepL rs z (a,b,1)).sum < z.sum:=by
 obtain ⟨is,en⟩:=canDo_is c
 obtain ⟨ar,nb,_⟩:=isStp_of is
 obtain ⟨k,ek,tk,kk,br⟩:=step_toll g is
 have ad:=g.adj ((mem_nbrs g).mp nb)
 simp only at ar nb ek tk br en ad
 unfold stepL
 show ((z.set a.toNat (z.getD a.toNat 0 - 1 * tollD rs a b)).set b.toNat ((z.set a.toNat (z.getD a.toNat 0 - 1 * tollD rs a b)).getD b.toNat 0 + 1)).sum < z.sum
 rw [sum_set _ _ _ (by rw [List.length_set]; omega),sum_set _ _ _ (by omega),tk]
 omega
theorem meet_ex (g:Good m rs) (R:Rooted m rs r par dep) (r0:0≤r) (r1:r < m) {ys:List Int} (y0:∀ y∈ys,0≤y):∀ (n:Nat) (z:List Int),z.sum.toNat=n→(z.length:Int)=m→(∀ x∈z,0≤x)→0≤stg m rs r par dep ys z r →
   ∃ z',Come m rs z z'∧(∀ v,0≤v→v < m→ys.getD v.toNat 0≤z'.getD v.toNat 0)∧z'.getD r.toNat 0 - ys.getD r.toNat 0=stg m rs r par dep ys z r:=by
 intro n
 induction n using Nat.strongRecOn with
 | _ n ih =>
   intro z hn zl z0 s0
   rcases meet_step g R r0 r1 zl y0 s0 with ⟨h1,h2⟩ | ⟨a,b,c,e⟩
   · exact ⟨z,.start,h1,h2⟩
   · have z0':=step_nn g zl z0 c
     have lt:=step_less g zl c
     have s0':=sum_nn z0'
     obtain ⟨z',h1,h2,h3⟩:=ih _ (by omega) (stepL rs z (a,b,1)) rfl (by rw [stepL_len]; exact zl) z0' (by rw [e]; exact s0)
     exact ⟨z',h1.pre c,h2,by rw [h3,e]⟩
theorem Come.stg_le (g:Good m rs) (R:Rooted m rs r par dep) (r0:0≤r) (r1:r < m) {xs ys:List Int} (xl:(xs.length:Int)=m) {z:List Int} (h:Come m rs xs z):stg m rs r par dep ys z r≤stg m rs r par dep ys xs r:=by
 induction h with
 | start=>exact Int.le_refl _
 | step hz c ih=>exact Int.le_trans (help_step g R r0 r1 (by rw [hz.len]; exact xl) (canDo_is c).1) ih
theorem hnd_nn (g:Good m rs) (v x:Int) (h:0≤x):0≤hnd rs par v x:=by
 have:=hnd_mono (par:=par) g v 0 x h
 have e:hnd rs par v 0=0:=by unfold hnd; rw [if_pos (Int.le_refl _)]; exact Int.zero_ediv _
 omega
theorem gatU_nnC {held:Int→Int} {con:Int→Int→Int} (hz:∀ v,0≤held v) (hc:∀ v x,0≤x→0≤con v x):∀ (n:Nat) (v:Int),0≤gatU m rs r par held con n v
 | 0,v=>hz v
 | n + 1,v=>by
   show 0≤held v + ((kidsOf m rs (front r par v) v).map fun c=>con c (gatU m rs r par held con n c)).sum
   have h1:=hz v
   have h2:0≤((kidsOf m rs (front r par v) v).map fun c=>con c (gatU m rs r par held con n c)).sum:=sum_nn fun x hx=>by
     obtain ⟨c,hc',rfl⟩:=List.mem_map.mp hx
     exact hc c _ (gatU_nnC hz hc n c)
   omega
theorem stg_ge (g:Good m rs) (R:Rooted m rs r par dep) (r0:0≤r) (r1:r < m) {ys z:List Int} (h:∀ v,0≤v→v < m→ys.getD v.toNat 0≤z.getD v.toNat 0):z.getD r.toNat 0 - ys.getD r.toNat 0≤stg m rs r par dep ys z r:=by
 have hz:∀ v:Int,0≤(overL m z ys).getD v.toNat 0:=fun v=>by
   rw [over_at]
   by_cases c:v.toNat < m.toNat
   · rw [if_pos c]
     have:=h (v.toNat:Int) (by omega) (by omega)
     rw [Int.toNat_natCast] at this
     omega
   · rw [if_neg c]; exact Int.le_refl _
 rw [stg_eq g R r0 r1]
 have:0≤((kidsOf m rs (front r par r) r).map fun c=>hnd rs par c (stg m rs r par dep ys z c)).sum:=sum_nn fun x hx=>by
   obtain ⟨c,hc,rfl⟩:=List.mem_map.mp hx
   exact hnd_nn g c _ (gatU_nnC hz (hnd_nn g) _ _)
 omega
end
section
variable {m:Int} {rs:List Road} {xs:List Int}
end
end Pb
set_option Elab.async false
set_option linter.all false
set_option maxRecDepth 100000
namespace L2
open PySem PySem.Spec PyProof.Rows PySem.W Pb
section
variable {X:Cx} {pins:List (Addr × Obj)} {σ:St} {H:Hp} {s:Shared}
end
def Itd (d:Addr) (o:Obj) (kvs:List (List Key × V)):It :=
 ⟨fun i H=>H d=some (.frz o (.dT kvs))∧i < kvs.length,fun i H x H'=>H'=H∧∃ (q:Addr) (k:List Key) (v:V),x=.ref q∧kvs[i]?=some (k,v)∧H q=some (.tup (k.map kV)),fun i H=>H d=some (.frz o (.dT kvs))∧i=kvs.length⟩
def tForD (tl:TE) (g:TG) (tb:TS):TS:=fun D σ H=>tl σ H fun x H1=>∃ (d:Addr) (kvs:List (List Key × V)),x=.ref d∧H1 d=some (.dT kvs) ∧
 ∀ o,ForGo (Itd d o kvs) { D with nx:=fun σ' H'=>H' d=some (.frz o (.dT kvs))∧D.nx σ' (upd H' d (.dT kvs)) } g tb σ (upd H1 d (.frz o (.dT kvs)))
section
variable {X:Cx} {tg:Expr}
end
end L2
set_option Elab.async false
set_option linter.all false
set_option maxRecDepth 100000
namespace Pb
open L2 PySem
section
variable {α β:Type}
end
section
variable {m:Int} {rs:List Road} {r:Int} {par:Int→Int} {dep:Int→Nat}
end
end Pb
namespace Pb
open L2 PySem
section
variable {m:Int} {rs:List Road} {r:Int} {par:Int→Int} {dep:Int→Nat} {to:Bool}
end
end Pb
namespace Pb
open L2 PySem
end Pb
namespace Pb
open L2 PySem
end Pb
set_option Elab.async false
set_option linter.all false
set_option maxRecDepth 100000
namespace L2
open PySem PySem.Spec PyProof.Rows
section
variable {X:Cx} {cx:Str} {Nc:List Str} {own:Nat} {js:List Nat} {scope:Scope} {cl:List (Str × Addr)}
end
section
variable {X:Cx} {cx:Str} {Nc:List Str} {own:Nat} {js:List Nat} {scope:Scope} {cl:List (Str × Addr)}
end
end L2
set_option Elab.async false
set_option linter.all false
set_option maxRecDepth 100000
namespace L2
open PySem PySem.Spec PyProof.Rows PySem.W
section
variable {X:Cx}
end
def Its (z:Str):It:=⟨fun i _=>i < z.cps.size,fun i H x H'=>H'=H∧∃ c,z.cps[i]?=some c∧x=.str ⟨#[c]⟩,fun i _=>z.cps.size≤i⟩
section
variable {X:Cx} {tg:Expr}
def iStr (tl:TE):TI:=fun σ H R=>tl σ H fun x H1=>∃ z,x=.str z∧z.cps.all (· < 128)=true∧R (Its z) H1
end
section
variable {P:Program} {w:World} {A:Around} {E:Value→Shared→Prop} {s:Shared}
end
section
variable {X:Cx} {e:Expr} {te:TE} {p2 apos cpos pos2:Pos} {z:Str} {zp:Pos} {zk:Nat}
def tJoinR (K:PySem.W.Frag) (z:Str) (te:TE):TE:=fun σ H Q=>te σ H fun x H1=>∃ (a:Addr) (ys:List Str),x=.ref a∧SqL K H1 a (ys.map V.str)∧(ys.map (·.length)).sum + ys.length * z.length≤16777216∧Q (.str (Str.join z ys.reverse)) H1
end
end L2
set_option Elab.async false
set_option linter.all false
set_option maxRecDepth 100000
namespace Pb
open L2 PySem PySem.W NumText
end Pb
set_option Elab.async false
set_option linter.all false
set_option maxRecDepth 100000
namespace L2
open PySem PySem.Spec PyProof.Rows PySem.W
end L2
namespace Pb
open L2 PySem PySem.W NumText
open PySem.StrLaws (At ChainG occ_tight partsBetween_eq partsFrom strSub_toList subAt_eq sub_whole)
section
variable {X:Str} {u c v:Nat}
end
end Pb
set_option Elab.async false
set_option linter.all false
set_option maxRecDepth 100000
namespace L2
open PySem PySem.Spec PyProof.Rows PySem.W
end L2
namespace Pb
open L2 PySem PySem.W NumText
end Pb
set_option Elab.async false
set_option linter.all false
set_option maxRecDepth 100000
namespace Pb
open L2 PySem
section
variable {m:Int} {rs:List Road} {r:Int} {par:Int→Int} {dep:Int→Nat} {held:Int→Int}
end
end Pb
set_option Elab.async false
set_option linter.all false
set_option maxRecDepth 100000
namespace L2
open PySem PySem.Spec PyProof.Rows
section
variable {prog:Program} {w:World} {A:Around} {E:Value→Shared→Prop} {R:Result→Shared→Prop} {s:Shared}
end
section
variable {M:Model} {A:Around} {E:Value→Shared→Prop} {s:Shared} {Q:Unit→Shared→Prop} {fs:List Addr} {ea T L:Addr} {cls fl hd:Value} {od:Option Addr} {base:Heap} {env:Env} {outer:List Env}
end
section
variable {P:Program} {w:World} {K:PySem.W.Frag} {mg:Str→Option Value} {base:Heap} {N:List Str} {qual:Str} {scope:Scope} {f:Addr} {cd:Value} {A:Around} {outer:List Env} {s:Shared} {H:Hp} {E:XK}
end
section
variable {X:Cx} {Nc:List Str} {own:Nat} {js:List Nat} {scope:Scope} {cl:List (Str × Addr)}
end
section
variable {X:Cx} {Nc:List Str} {own:Nat} {js:List Nat} {scope:Scope} {cl:List (Str × Addr)}
end
section
variable {X:Cx}
end
end L2
set_option Elab.async false
set_option linter.all false
set_option maxRecDepth 100000
namespace L2
open PySem PySem.Spec PyProof.Rows
section
variable {prog:Program} {w:World} {A:Around} {E:Value→Shared→Prop} {h:Heap} {g:Array GenState} {d:Drawn} {t:Nat} {os:OsState}
variable {nm q:Str} {C N:Addr} {bs bm bmB:List Value} {hdct:Bool} {sn:List Str} {sub:List Value} {ab:Bool} {col:Option Bool} {dd:Option Addr} {k0 k1 k2 k3 k5:Option Value} {B newId initId:String}
end
section
variable {M:Model} {A:Around} {E:Value→Shared→Prop} {env:Env}
variable {nm q:Str} {C N:Addr} {bs bm:List Value} {hdct:Bool} {sn:List Str} {sub:List Value} {ab:Bool} {col:Option Bool} {dd:Option Addr} {k0 k1 k2 k3 k5:Option Value} {newId:String}
end
section
variable {prog:Program} {w:World} {A:Around} {E:Value→Shared→Prop} {s:Shared} {env:Env}
variable {nm q:Str} {C N:Addr} {bs bm bmB:List Value} {hdct:Bool} {sn:List Str} {sub:List Value} {ab:Bool} {col:Option Bool} {dd:Option Addr} {k0 k1 k2 k3 k5:Option Value} {B newId initId:String}
end
section
variable {X:Cx} {pins:List (Addr × Obj)} {σ:St} {H:Hp} {s:Shared}
end
section
variable {P:Program} {w:World} {K:PySem.W.Frag} {mg:Str→Option Value} {base:Heap} {N:List Str} {qual:Str} {scope:Scope} {f:Addr} {cd:Value} {A:Around} {outer:List Env} {s:Shared} {H:Hp} {E:XK}
end
section
variable {X:Cx} {x:Str} {np cpos pos:Pos} {e0:Expr} {es:List Expr} {t:TA} {C fI:Addr} {E:XK} {CX:CXT} {k:Nat} {fd:FuncData} {ps:List Str} {sp:Sp}
end
section
variable {X:Cx} {x:Str} {np apos pos:Pos} {e0:Expr} {es:List Expr} {t:TA} {Tl:Addr} {pl:Sem Bool}
end
end L2
set_option Elab.async false
set_option linter.all false
set_option maxRecDepth 100000
namespace L2
open PySem PySem.Spec PyProof.Rows PySem.W PySem.Builtin PySem.Builtin.ObjectAttr
section
variable {K:PySem.W.Frag} {prog:Program} {w:World} {A:Around} {s:Shared} {x C Tl:Addr} {R:Result→Shared→Prop}
end
section
variable {X:Cx} {pins:List (Addr × Obj)} {σ:St} {H:Hp} {s:Shared}
end
section
variable {X:Cx} {pins:List (Addr × Obj)} {σ:St} {H:Hp} {s:Shared} {A:Around} {E:Value→Shared→Prop} {ea C Tl:Addr} {f:Str}
end
section
variable {X:Cx} {o value:Expr} {ta tv:TE} {f:Str} {pos pos':Pos}
end
section
variable {prog:Program} {w:World} {A:Around} {E:Value→Shared→Prop} {s:Shared} {K:PySem.W.Frag} {x C:Addr} {ox:Obj} {od:Obj}
end
section
variable {X:Cx} {o:Expr} {ta:TE} {f:Str} {pos:Pos}
end
end L2
set_option Elab.async false
set_option linter.all false
set_option maxRecDepth 100000
namespace L2
open PySem
def tHandN (K:PySem.W.Frag) (C':Addr) (ts:TS) (tr:TH):TH:=fun D σ cls od H=>∃ C b,cls=.ref C∧PySem.W.mroIn K C (.ref C')=some b∧if b=true then ts D σ H else tr D σ cls od H
section
variable {X:Cx} {x:Str} {np pos:Pos} {C':Addr} {b0:Stmt} {suite:List Stmt} {rest:List ExceptHandler} {ts:TS} {tr:TH}
end
end L2
namespace Pb
open L2 PySem
theorem canDo_tl {m:Int} {rs:List Road} (g:Good m rs) {xs:List Int} {s:Stp} {t:Int} (h:tollOf rs s.1 s.2.1=some t):canDo m rs xs s=(decide (0 < s.2.2) && decide (t * s.2.2≤xs.getD s.1.toNat 0)):=by
 have ad:Adj rs s.1 s.2.1:=toll_adj.mp (by rw [h]; rfl)
 obtain ⟨ar,br,_⟩:=g.adj ad
 unfold canDo isStp tollD
 rw [h,decide_eq_true ar.1,decide_eq_true ar.2,decide_eq_true ((mem_nbrs g).mpr ad)]
 show (true && true && true && decide (1≤s.2.2) && decide (s.2.2 * t≤_))=_
 rw [Int.mul_comm]
 rfl
theorem canDo_no {m:Int} {rs:List Road} (g:Good m rs) {xs:List Int} {s:Stp} (h:tollOf rs s.1 s.2.1=none):canDo m rs xs s=false:=by
 cases c:canDo m rs xs s
 · rfl
 · unfold canDo at c
   rw [Bool.and_eq_true] at c
   obtain ⟨k,e,_⟩:=step_toll g c.1
   rw [e] at h
   cases h
end Pb
set_option Elab.async false
set_option linter.all false
set_option maxRecDepth 100000
namespace Pb
open L2 PySem
section
variable {m:Int} {rs:List Road}
theorem canAll_nil {xs:List Int}:CanAll m rs xs []:=fun i s h=>by simp at h
theorem canAll_cons {xs:List Int} {s:Stp} {ss:List Stp} (h:canDo m rs xs s=true) (k:CanAll m rs (stepL rs xs s) ss):CanAll m rs xs (s :: ss):=by
 intro i s' hs
 cases i with
 | zero=>cases hs; exact h
 | succ i=>exact k i s' hs
theorem canAll_of_cons {xs:List Int} {s:Stp} {ss:List Stp} (h:CanAll m rs xs (s :: ss)):canDo m rs xs s=true∧CanAll m rs (stepL rs xs s) ss :=
 ⟨h 0 s rfl,fun i s' hs=>h (i + 1) s' hs⟩
theorem canAll_join:∀ {ss tt:List Stp} {xs:List Int},CanAll m rs xs ss→CanAll m rs (ss.foldl (stepL rs) xs) tt→CanAll m rs xs (ss ++ tt)
 | [],_,_,_,k=>k
 | s :: ss,tt,xs,h,k=>canAll_cons (canAll_of_cons h).1 (canAll_join (canAll_of_cons h).2 k)
theorem stAt_full (xs:List Int) (ss:List Stp):stAt rs xs ss ss.length=ss.foldl (stepL rs) xs:=by
 unfold stAt
 rw [List.take_length]
theorem fold_len:∀ (ss:List Stp) (xs:List Int),(ss.foldl (stepL rs) xs).length=xs.length
 | [],_=>rfl
 | s :: ss,xs=>by rw [List.foldl_cons,fold_len ss,stepL_len]
theorem canAll_fm {f:Int→Stp} {p:Int→Bool}:∀ (l:List Int) (xs:List Int),(∀ A v B,l=A ++ v :: B→p v=true→canDo m rs (((A.filter p).map f).foldl (stepL rs) xs) (f v)=true)→CanAll m rs xs ((l.filter p).map f)
 | [],xs,_=>canAll_nil
 | u :: l,xs,h=>by
   by_cases c:p u=true
   · rw [List.filter_cons_of_pos c,List.map_cons]
     refine canAll_cons (h [] u l rfl c) (canAll_fm l _ fun A v B e q=>?_)
     have:=h (u :: A) v B (by rw [e]; rfl) q
     rw [List.filter_cons_of_pos c] at this
     exact this
   · rw [List.filter_cons_of_neg c]
     refine canAll_fm l xs fun A v B e q=>?_
     have:=h (u :: A) v B (by rw [e]; rfl) q
     rw [List.filter_cons_of_neg c] at this
     exact this
def dlt (rs:List Road) (v:Int) (s:Stp):Int:=(if s.2.1=v then s.2.2 else 0) - (if s.1=v then s.2.2 * tollD rs s.1 s.2.1 else 0)
def Plain (m:Int) (s:Stp):Prop:=(0≤s.1∧s.1 < m)∧(0≤s.2.1∧s.2.1 < m)∧s.1≠s.2.1
theorem step_val {xs:List Int} (xl:(xs.length:Int)=m) {s:Stp} (ps:Plain m s) {v:Int} (v0:0≤v) (v1:v < m):(stepL rs xs s).getD v.toNat 0=xs.getD v.toNat 0 + dlt rs v s:=by
 obtain ⟨a,b,n⟩:=s
 obtain ⟨ar,br,ne⟩:=ps
 change 0≤a∧a < m at ar
 change 0≤b∧b < m at br
 change a≠b at ne
 unfold stepL dlt
 show ((xs.set a.toNat (xs.getD a.toNat 0 - n * tollD rs a b)).set b.toNat ((xs.set a.toNat (xs.getD a.toNat 0 - n * tollD rs a b)).getD b.toNat 0 + n)).getD v.toNat 0=xs.getD v.toNat 0 + ((if b=v then n else 0) - (if a=v then n * tollD rs a b else 0))
 generalize n * tollD rs a b=k
 rw [getD_set _ _ _ _ (by rw [List.length_set]; omega),getD_set _ _ _ _ (by omega),getD_set _ _ _ _ (by omega)]
 by_cases c:b=v
 · subst c
   rw [if_pos rfl,if_pos rfl,if_neg ne,if_neg (show ¬ a.toNat=b.toNat by omega)]
   omega
 · rw [if_neg (show ¬ b.toNat=v.toNat by omega),if_neg c]
   by_cases d:a=v
   · subst d
     rw [if_pos rfl,if_pos rfl]
     omega
   · rw [if_neg (show ¬ a.toNat=v.toNat by omega),if_neg d]
     omega
theorem fold_val {v:Int} (v0:0≤v) (v1:v < m):∀ (ss:List Stp) (xs:List Int),(xs.length:Int)=m→(∀ s∈ss,Plain m s)→(ss.foldl (stepL rs) xs).getD v.toNat 0=xs.getD v.toNat 0 + (ss.map (dlt rs v)).sum
 | [],xs,_,_=>by simp
 | s :: ss,xs,xl,h=>by
   rw [List.foldl_cons,fold_val v0 v1 ss (stepL rs xs s) (by rw [stepL_len]; exact xl) (fun t ht=>h t (List.mem_cons_of_mem _ ht)),step_val xl (h s List.mem_cons_self) v0 v1,List.map_cons,List.sum_cons]
   omega
theorem sum_fm (g:Stp→Int) (f:Int→Stp) (p:Int→Bool):∀ l:List Int,(((l.filter p).map f).map g).sum=(l.map fun u=>if p u=true then g (f u) else 0).sum
 | []=>rfl
 | u :: l=>by
   by_cases c:p u=true
   · rw [List.filter_cons_of_pos c,List.map_cons,List.map_cons,List.sum_cons,sum_fm g f p l,List.map_cons,List.sum_cons,if_pos c]
   · rw [List.filter_cons_of_neg c,sum_fm g f p l,List.map_cons,List.sum_cons,if_neg c]
     omega
theorem sum_sub (f g:Int→Int):∀ l:List Int,(l.map fun u=>f u - g u).sum=(l.map f).sum - (l.map g).sum
 | []=>rfl
 | u :: l=>by
   simp only [List.map_cons,List.sum_cons,sum_sub f g l]
   omega
theorem sum_at (f:Int→Int) (v:Int):∀ l:List Int,l.Nodup→(l.map fun u=>if u=v then f u else 0).sum=if v∈l then f v else 0
 | [],_=>by simp
 | u :: l,nd=>by
   have hn:=List.nodup_cons.mp nd
   rw [List.map_cons,List.sum_cons,sum_at f v l hn.2]
   by_cases c:u=v
   · subst c
     rw [if_pos rfl,if_neg hn.1,if_pos List.mem_cons_self]
     omega
   · rw [if_neg c]
     by_cases d:v∈l
     · rw [if_pos d,if_pos (List.mem_cons_of_mem _ d)]; omega
     · rw [if_neg d,if_neg (fun z=>by rcases List.mem_cons.mp z with z | z; exact c z.symm; exact d z)]; omega
theorem sum_if (f:Int→Int) (p:Int→Prop) [DecidablePred p]:∀ l:List Int,(l.map fun u=>if p u then f u else 0).sum=((l.filter fun u=>decide (p u)).map f).sum
 | []=>rfl
 | u :: l=>by
   rw [List.map_cons,List.sum_cons,sum_if f p l]
   by_cases c:p u
   · rw [if_pos c,List.filter_cons_of_pos (p:=fun u=>decide (p u)) (decide_eq_true c),List.map_cons,List.sum_cons]
   · rw [if_neg c,List.filter_cons_of_neg (p:=fun u=>decide (p u)) (by simpa using c)]; omega
end
section
variable {m:Int} {rs:List Road} {r:Int} {par:Int→Int} {dep:Int→Nat} {st:Int→Int} {xs ys:List Int}
def tdn (rs:List Road) (par:Int→Int) (v:Int):Int:=(tollOf rs (par v) v).getD 1
def innT (rs:List Road) (par:Int→Int) (st:Int→Int) (v:Int):Int:=if 0≤st v then st v / tol rs par v else 0
def outT (st:Int→Int) (v:Int):Int:=if 0≤st v then 0 else - st v
def innP (rs:List Road) (par:Int→Int) (st:Int→Int) (v:Int):Bool:=decide (0 < innT rs par st v)
def outP (st:Int→Int) (v:Int):Bool:=decide (st v < 0)
def innS (rs:List Road) (par:Int→Int) (st:Int→Int) (v:Int):Stp:=(v,par v,innT rs par st v)
def outS (par:Int→Int) (st:Int→Int) (v:Int):Stp:=(par v,v,- st v)
def innL (rs:List Road) (par:Int→Int) (st:Int→Int) (l:List Int):List Stp:=(l.filter (innP rs par st)).map (innS rs par st)
def outL (par:Int→Int) (st:Int→Int) (l:List Int):List Stp:=(l.filter (outP st)).map (outS par st)
theorem innL_pos {l:List Int} {v:Int} (c:innP rs par st v=true):innL rs par st (l ++ [v])=innL rs par st l ++ [innS rs par st v]:=by
 unfold innL
 rw [List.filter_append,List.filter_cons_of_pos c,List.map_append]
 rfl
theorem innL_neg {l:List Int} {v:Int} (c:¬ innP rs par st v=true):innL rs par st (l ++ [v])=innL rs par st l:=by
 unfold innL
 rw [List.filter_append,List.filter_cons_of_neg c,List.filter_nil,List.append_nil]
theorem outL_pos {l:List Int} {v:Int} (c:outP st v=true):outL par st (l ++ [v])=outL par st l ++ [outS par st v]:=by
 unfold outL
 rw [List.filter_append,List.filter_cons_of_pos c,List.map_append]
 rfl
theorem outL_neg {l:List Int} {v:Int} (c:¬ outP st v=true):outL par st (l ++ [v])=outL par st l:=by
 unfold outL
 rw [List.filter_append,List.filter_cons_of_neg c,List.filter_nil,List.append_nil]
theorem tol_pos (g:Good m rs) (R:Rooted m rs r par dep) {v:Int} (h0:0≤v) (h1:v < m) (hr:v≠r):2≤tol rs par v∧2≤tdn rs par v:=by
 obtain ⟨k,hk,k0,_⟩:=toll_up g R h0 h1 hr
 obtain ⟨k',hk',k0',_⟩:=toll_dn g R h0 h1 hr
 unfold tol tdn
 rw [hk,hk']
 exact ⟨k0,k0'⟩
theorem hnd_split (st:Int→Int) (v:Int):hnd rs par v (st v)=innT rs par st v - outT st v * tdn rs par v:=by
 unfold hnd innT outT tol tdn
 by_cases c:0≤st v
 · rw [if_pos c,if_pos c,if_pos c]; omega
 · rw [if_neg c,if_neg c,if_neg c,Int.neg_mul]; omega
theorem out_nn (st:Int→Int) (v:Int):0≤outT st v:=by
 unfold outT
 by_cases c:0≤st v
 · rw [if_pos c]; exact Int.le_refl _
 · rw [if_neg c]; omega
theorem inn_nn (g:Good m rs) (R:Rooted m rs r par dep) (st:Int→Int) {v:Int} (h0:0≤v) (h1:v < m) (hr:v≠r):0≤innT rs par st v:=by
 have:=(tol_pos g R h0 h1 hr).1
 unfold innT
 by_cases c:0≤st v
 · rw [if_pos c]; exact Int.ediv_nonneg c (by omega)
 · rw [if_neg c]; exact Int.le_refl _
theorem inn_le (g:Good m rs) (R:Rooted m rs r par dep) (st:Int→Int) {v:Int} (h0:0≤v) (h1:v < m) (hr:v≠r):innT rs par st v * tol rs par v≤st v + outT st v:=by
 have:=(tol_pos g R h0 h1 hr).1
 unfold innT outT
 by_cases c:0≤st v
 · rw [if_pos c,if_pos c,Int.add_zero]; exact Int.ediv_mul_le _ (by omega)
 · rw [if_neg c,if_neg c]; omega
theorem hnd_inn (g:Good m rs) (R:Rooted m rs r par dep) (st:Int→Int) {v:Int} (h0:0≤v) (h1:v < m) (hr:v≠r):(0 < hnd rs par v (st v)→hnd rs par v (st v)=innT rs par st v)∧(¬ 0 < hnd rs par v (st v)→¬ 0 < innT rs par st v):=by
 have t2:=(tol_pos g R h0 h1 hr).2
 have e:=hnd_split (rs:=rs) (par:=par) st v
 unfold innT outT at e
 unfold innT
 by_cases c:0≤st v
 · rw [if_pos c,if_pos c,Int.zero_mul,Int.sub_zero] at e
   rw [e,if_pos c]
   exact ⟨fun _=>rfl,fun h=>h⟩
 · rw [if_neg c,if_neg c] at e
   rw [if_neg c]
   have:0≤(- st v) * tdn rs par v:=Int.mul_nonneg (by omega) (by omega)
   exact ⟨fun h=>by omega,fun _=>by decide⟩
theorem kid_sum (g:Good m rs) (R:Rooted m rs r par dep) {t:List Int} (nd:t.Nodup) (tr:∀ x∈t,(0≤x∧x < m)∧x≠r) {v:Int} (h0:0≤v) (h1:v < m) (hk:∀ k,0≤k→k < m→k≠r→par k=v→k∈t) (f:Int→Int):(t.map fun u=>if par u=v then f u else 0).sum=((kidsOf m rs (front r par v) v).map f).sum:=by
 rw [sum_if f (fun u=>par u=v),perm_sum ((kids_of_row g R nd tr h0 h1 hk).map f)]
theorem sum_pick {l:List Int} {f h:Int→Int} (e:∀ u∈l,f u=h u):(l.map f).sum=(l.map h).sum:=by rw [List.map_congr_left e]
theorem inn_sum (g:Good m rs) (R:Rooted m rs r par dep) (st:Int→Int) {A:List Int} (tr:∀ x∈A,(0≤x∧x < m)∧x≠r) (v:Int):((innL rs par st A).map (dlt rs v)).sum=(A.map fun u=>if par u=v then innT rs par st u else 0).sum - (A.map fun u=>if u=v then innT rs par st u * tol rs par u else 0).sum:=by
 unfold innL
 rw [sum_fm,← sum_sub]
 refine sum_pick fun u hu=>?_
 obtain ⟨ur,un⟩:=tr u hu
 have nn:=inn_nn g R st ur.1 ur.2 un
 by_cases c:innP rs par st u=true
 · rw [if_pos c]; rfl
 · have z:innT rs par st u=0:=by
     unfold innP at c
     rw [decide_eq_true_eq] at c
     omega
   rw [if_neg c,z,Int.zero_mul,ite_self,ite_self]
   rfl
theorem out_sum (st:Int→Int) (A:List Int) (v:Int):((outL par st A).map (dlt rs v)).sum=(A.map fun u=>if u=v then outT st u else 0).sum - (A.map fun u=>if par u=v then outT st u * tdn rs par u else 0).sum:=by
 unfold outL
 rw [sum_fm,← sum_sub]
 refine sum_pick fun u hu=>?_
 by_cases c:outP st u=true
 · have c':¬ 0≤st u:=by unfold outP at c; rw [decide_eq_true_eq] at c; omega
   have e:outT st u=- st u:=by unfold outT; rw [if_neg c']
   rw [if_pos c,e]
   rfl
 · have c':0≤st u:=by unfold outP at c; rw [decide_eq_true_eq] at c; omega
   have e:outT st u=0:=by unfold outT; rw [if_pos c']
   rw [if_neg c,e,Int.zero_mul,ite_self,ite_self]
   rfl
theorem inn_plain (R:Rooted m rs r par dep) (st:Int→Int) {A:List Int} (tr:∀ x∈A,(0≤x∧x < m)∧x≠r):∀ s∈innL rs par st A,Plain m s:=fun s hs=>by
 obtain ⟨u,hu,rfl⟩:=List.mem_map.mp hs
 obtain ⟨ur,un⟩:=tr u (List.mem_filter.mp hu).1
 exact ⟨ur,(R.up u ur.1 ur.2 un).1,(R.ne ur.1 ur.2 un).symm⟩
theorem out_plain (R:Rooted m rs r par dep) (st:Int→Int) {A:List Int} (tr:∀ x∈A,(0≤x∧x < m)∧x≠r):∀ s∈outL par st A,Plain m s:=fun s hs=>by
 obtain ⟨u,hu,rfl⟩:=List.mem_map.mp hs
 obtain ⟨ur,un⟩:=tr u (List.mem_filter.mp hu).1
 exact ⟨(R.up u ur.1 ur.2 un).1,ur,R.ne ur.1 ur.2 un⟩
structure Lead (m:Int) (rs:List Road) (r:Int) (par:Int→Int) (st:Int→Int) (xs ys:List Int):Prop where
 len:(xs.length:Int)=m
 yn:∀ v:Int,0≤ys.getD v.toNat 0
 top:0≤st r
 eq:∀ v,0≤v→v < m→st v=xs.getD v.toNat 0 - ys.getD v.toNat 0 + ((kidsOf m rs (front r par v) v).map fun c=>hnd rs par c (st c)).sum
theorem Lead.kid (L:Lead m rs r par st xs ys) {v:Int} (v0:0≤v) (v1:v < m):xs.getD v.toNat 0 + ((kidsOf m rs (front r par v) v).map (innT rs par st)).sum=st v + ys.getD v.toNat 0 + ((kidsOf m rs (front r par v) v).map fun c=>outT st c * tdn rs par c).sum:=by
 have e:=L.eq v v0 v1
 have e2:((kidsOf m rs (front r par v) v).map fun c=>hnd rs par c (st c)).sum=((kidsOf m rs (front r par v) v).map (innT rs par st)).sum - ((kidsOf m rs (front r par v) v).map fun c=>outT st c * tdn rs par c).sum:=by
   rw [← sum_sub]
   exact sum_pick fun u _=>hnd_split st u
 omega
theorem kidout_nn (g:Good m rs) (R:Rooted m rs r par dep) (st:Int→Int) {v:Int} (v0:0≤v) (v1:v < m):0≤((kidsOf m rs (front r par v) v).map fun c=>outT st c * tdn rs par c).sum:=sum_nn fun x hx=>by
 obtain ⟨c,hc,rfl⟩:=List.mem_map.mp hx
 obtain ⟨cr,cn,_⟩:=(mem_kids g R v0 v1).mp hc
 exact Int.mul_nonneg (out_nn st c) (by have:=(tol_pos g R cr.1 cr.2 cn).2; omega)
theorem nodup_rev {l:List Int} (h:l.Nodup):l.reverse.Nodup:=(List.reverse_perm l).nodup_iff.mpr h
theorem Lead.inn (g:Good m rs) (R:Rooted m rs r par dep) {tl:List Int} (O:Order m r par tl) (L:Lead m rs r par st xs ys):CanAll m rs xs (innL rs par st tl.reverse):=by
 refine canAll_fm _ _ fun A v B e q=>?_
 have e':tl=B.reverse ++ v :: A.reverse:=by
   have:=congrArg List.reverse e
   rw [List.reverse_reverse,List.reverse_append,List.reverse_cons,List.append_assoc] at this
   exact this
 have nd:=nodup_rev (List.nodup_cons.mp O.nd).2
 rw [e] at nd
 have ndA:=(List.nodup_append.mp nd).1
 have vA:v ∉ A:=fun z=>(List.nodup_append.mp nd).2.2 v z v List.mem_cons_self rfl
 have inA:∀ x∈A,x∈tl:=fun x hx=>by rw [e']; exact List.mem_append_right _ (List.mem_cons_of_mem _ (List.mem_reverse.mpr hx))
 have trA:∀ x∈A,(0≤x∧x < m)∧x≠r:=fun x hx=>O.places x (inA x hx)
 obtain ⟨vr,vn⟩:=O.places v (by rw [e']; simp)
 have u:=R.up v vr.1 vr.2 vn
 have hk:∀ k,0≤k→k < m→k≠r→par k=v→k∈A:=fun k a b c d=>List.mem_reverse.mp (O.kids R e' k a b c d)
 have pos:0 < innT rs par st v:=of_decide_eq_true q
 have val:((innL rs par st A).foldl (stepL rs) xs).getD v.toNat 0=st v + ys.getD v.toNat 0 + ((kidsOf m rs (front r par v) v).map fun c=>outT st c * tdn rs par c).sum:=by
   rw [fold_val vr.1 vr.2 _ xs L.len (inn_plain R st trA)]
   rw [inn_sum g R st trA v,kid_sum g R ndA trA vr.1 vr.2 hk,sum_at _ v A ndA,if_neg vA,Int.sub_zero]
   exact L.kid vr.1 vr.2
 have st0:0≤st v:=by
   by_cases c:0≤st v
   · exact c
   · unfold innT at pos
     rw [if_neg c] at pos
     omega
 have le:=inn_le g R st vr.1 vr.2 vn
 have o0:outT st v=0:=by unfold outT; rw [if_pos st0]
 rw [o0,Int.add_zero] at le
 have yn:=L.yn v
 have kn:=kidout_nn g R st vr.1 vr.2
 unfold canDo isStp
 simp only [Bool.and_eq_true,decide_eq_true_eq]
 refine ⟨⟨⟨vr,(mem_nbrs g).mpr u.2.1⟩,pos⟩,?_⟩
 show innT rs par st v * tollD rs v (par v)≤((innL rs par st A).foldl (stepL rs) xs).getD v.toNat 0
 rw [val]
 have:tollD rs v (par v)=tol rs par v:=rfl
 rw [this]
 omega
theorem Lead.mid (g:Good m rs) (R:Rooted m rs r par dep) {tl:List Int} (O:Order m r par tl) (L:Lead m rs r par st xs ys) {v:Int} (v0:0≤v) (v1:v < m):((innL rs par st tl.reverse).foldl (stepL rs) xs).getD v.toNat 0=st v + ys.getD v.toNat 0 + ((kidsOf m rs (front r par v) v).map fun c=>outT st c * tdn rs par c).sum - (if v=r then 0 else innT rs par st v * tol rs par v):=by
 have nd:=nodup_rev (List.nodup_cons.mp O.nd).2
 have tr:∀ x∈tl.reverse,(0≤x∧x < m)∧x≠r:=fun x hx=>O.places x (List.mem_reverse.mp hx)
 rw [fold_val v0 v1 _ xs L.len (inn_plain R st tr),inn_sum g R st tr v,kid_sum g R nd tr v0 v1 (fun k a b c _=>List.mem_reverse.mpr ((O.all k a b).resolve_left c)),sum_at _ v _ nd]
 have:=L.kid v0 v1
 have e:(if v∈tl.reverse then innT rs par st v * tol rs par v else 0)=if v=r then 0 else innT rs par st v * tol rs par v:=by
   by_cases c:v=r
   · rw [if_pos c,if_neg (fun z=>(tr v z).2 c)]
   · rw [if_neg c,if_pos (List.mem_reverse.mpr ((O.all v v0 v1).resolve_left c))]
 rw [e]
 omega
theorem Lead.left (g:Good m rs) (R:Rooted m rs r par dep) (L:Lead m rs r par st xs ys) {v:Int} (v0:0≤v) (v1:v < m):0≤st v + outT st v - (if v=r then 0 else innT rs par st v * tol rs par v):=by
 by_cases c:v=r
 · rw [if_pos c,c]
   have:=L.top
   have:=out_nn st r
   omega
 · rw [if_neg c]
   have:=inn_le g R st v0 v1 c
   omega
theorem Lead.out (g:Good m rs) (R:Rooted m rs r par dep) {tl:List Int} (O:Order m r par tl) (L:Lead m rs r par st xs ys):CanAll m rs ((innL rs par st tl.reverse).foldl (stepL rs) xs) (outL par st tl):=by
 refine canAll_fm _ _ fun A c B e q=>?_
 have nd:=(List.nodup_cons.mp O.nd).2
 have nr:=(List.nodup_cons.mp O.nd).1
 rw [e] at nd
 have ndA:=(List.nodup_append.mp nd).1
 have inA:∀ x∈A,x∈tl:=fun x hx=>by rw [e]; exact List.mem_append_left _ hx
 have trA:∀ x∈A,(0≤x∧x < m)∧x≠r:=fun x hx=>O.places x (inA x hx)
 obtain ⟨cr,cn⟩:=O.places c (by rw [e]; simp)
 have u:=R.up c cr.1 cr.2 cn
 have neg:st c < 0:=of_decide_eq_true q
 have oc:outT st c=- st c:=by unfold outT; rw [if_neg (by omega)]
 have xl:(((innL rs par st tl.reverse).foldl (stepL rs) xs).length:Int)=m:=by rw [fold_len]; exact L.len
 have pA:par c=r∨par c∈A:=by
   have af:=O.af
   rw [e,show A ++ c :: B=(A ++ [c]) ++ B by simp] at af
   rcases af.up c (by simp) with z | z
   · exact .inl (List.mem_singleton.mp z)
   · rcases List.mem_append.mp z with z | z
     · exact .inr z
     · exact absurd (List.mem_singleton.mp z) (R.ne cr.1 cr.2 cn)
 have own:(A.map fun u=>if u=par c then outT st u else 0).sum=outT st (par c):=by
   rw [sum_at _ _ A ndA]
   rcases pA with z | z
   · rw [z,if_neg (fun w=>nr (inA r w))]
     unfold outT
     rw [if_pos L.top]
   · rw [if_pos z]
 have all:=kid_sum g R (List.nodup_cons.mp O.nd).2 O.places u.1.1 u.1.2 (fun k a b d _=>(O.all k a b).resolve_left d) (fun w=>outT st w * tdn rs par w)
 have part:(A.map fun w=>if par w=par c then outT st w * tdn rs par w else 0).sum + outT st c * tdn rs par c≤(tl.map fun w=>if par w=par c then outT st w * tdn rs par w else 0).sum:=by
   rw [e,List.map_append,List.map_cons,List.sum_append,List.sum_cons,if_pos rfl]
   have:0≤(B.map fun w=>if par w=par c then outT st w * tdn rs par w else 0).sum:=sum_nn fun x hx=>by
     obtain ⟨w,hw,rfl⟩:=List.mem_map.mp hx
     obtain ⟨wr,wn⟩:=O.places w (by rw [e]; simp [hw])
     have t2:=(tol_pos g R wr.1 wr.2 wn).2
     by_cases z:par w=par c
     · rw [if_pos z]; exact Int.mul_nonneg (out_nn st w) (by omega)
     · rw [if_neg z]; exact Int.le_refl _
   omega
 have val:((outL par st A).foldl (stepL rs) ((innL rs par st tl.reverse).foldl (stepL rs) xs)).getD (par c).toNat 0=((innL rs par st tl.reverse).foldl (stepL rs) xs).getD (par c).toNat 0 + (outT st (par c) - (A.map fun w=>if par w=par c then outT st w * tdn rs par w else 0).sum):=by
   rw [fold_val u.1.1 u.1.2 _ _ xl (out_plain R st trA)]
   rw [out_sum (rs:=rs) (par:=par) st A (par c),own]
 have md:=L.mid g R O u.1.1 u.1.2
 have lf:=L.left g R u.1.1 u.1.2
 have yn:=L.yn (par c)
 unfold canDo isStp
 simp only [Bool.and_eq_true,decide_eq_true_eq]
 refine ⟨⟨⟨u.1,(mem_nbrs g).mpr u.2.1.symm⟩,by show 1≤- st c; omega⟩,?_⟩
 show - st c * tollD rs (par c) c≤((outL par st A).foldl (stepL rs) ((innL rs par st tl.reverse).foldl (stepL rs) xs)).getD (par c).toNat 0
 rw [val,md,← oc]
 have:tollD rs (par c) c=tdn rs par c:=rfl
 rw [this]
 omega
theorem Lead.all (g:Good m rs) (R:Rooted m rs r par dep) {tl:List Int} (O:Order m r par tl) (L:Lead m rs r par st xs ys):CanAll m rs xs (innL rs par st tl.reverse ++ outL par st tl):=canAll_join (L.inn g R O) (L.out g R O)
theorem Lead.meets (g:Good m rs) (R:Rooted m rs r par dep) {tl:List Int} (O:Order m r par tl) (L:Lead m rs r par st xs ys) {v:Int} (v0:0≤v) (v1:v < m):ys.getD v.toNat 0≤((innL rs par st tl.reverse ++ outL par st tl).foldl (stepL rs) xs).getD v.toNat 0:=by
 have nd:=(List.nodup_cons.mp O.nd).2
 have xl:(((innL rs par st tl.reverse).foldl (stepL rs) xs).length:Int)=m:=by rw [fold_len]; exact L.len
 rw [List.foldl_append,fold_val v0 v1 _ _ xl (out_plain R st O.places),out_sum,L.mid g R O v0 v1,kid_sum g R nd O.places v0 v1 (fun k a b d _=>(O.all k a b).resolve_left d) (fun w=>outT st w * tdn rs par w),sum_at _ v _ nd]
 have lf:=L.left g R v0 v1
 have e:(if v∈tl then outT st v else 0)=outT st v:=by
   by_cases c:v∈tl
   · rw [if_pos c]
   · rw [if_neg c]
     have:v=r:=(O.all v v0 v1).resolve_right c
     rw [this]
     unfold outT
     rw [if_pos L.top]
 rw [e]
 omega
theorem getD_ge {ys:List Int} (y0:∀ y∈ys,0≤y) (i:Nat):0≤ys.getD i 0:=by
 rw [List.getD]
 cases e:ys[i]? with
 | none=>exact Int.le_refl _
 | some y=>exact y0 y (List.mem_of_getElem? e)
theorem lead_of (g:Good m rs) (R:Rooted m rs r par dep) (xl:(xs.length:Int)=m) (y0:∀ y∈ys,0≤y) (s0:0≤stg m rs r par dep ys xs r):Lead m rs r par (stg m rs r par dep ys xs) xs ys :=
 ⟨xl,fun v=>getD_ge y0 _,s0,fun v v0 v1=>stg_eq g R v0 v1⟩
theorem met_any (g:Good m rs) (R:Rooted m rs r par dep) (r0:0≤r) (r1:r < m) {r':Int} {par':Int→Int} {dep':Int→Nat} (R':Rooted m rs r' par' dep') (r0':0≤r') (r1':r' < m) (xl:(xs.length:Int)=m) (x0:∀ x∈xs,0≤x) (y0:∀ y∈ys,0≤y) (s0:0≤stg m rs r par dep ys xs r):0≤stg m rs r' par' dep' ys xs r':=by
 obtain ⟨z,cz,hz,_⟩:=meet_ex g R r0 r1 y0 _ xs rfl xl x0 s0
 have h1:=stg_ge g R' r0' r1' hz
 have h2:=cz.stg_le (ys:=ys) g R' r0' r1' xl
 have h3:=hz r' r0' r1'
 omega
theorem stg_more_x (g:Good m rs) (R:Rooted m rs r par dep) (r0:0≤r) (r1:r < m) (xl:(xs.length:Int)=m) (n:Int):stg m rs r par dep ys (xs.set r.toNat (xs.getD r.toNat 0 + n)) r=stg m rs r par dep ys xs r + n:=by
 show gat m rs r par dep _ _ r=gat m rs r par dep _ _ r + n
 rw [gat_root g R r0 r1 (held:=fun v=>(overL m xs ys).getD v.toNat 0) fun v v0 v1 vr=>?_]
 · show _ + ((overL m (xs.set r.toNat (xs.getD r.toNat 0 + n)) ys).getD r.toNat 0 - (overL m xs ys).getD r.toNat 0)=_
   rw [over_at,over_at,if_pos (by omega),if_pos (by omega),getD_set _ _ _ _ (by omega),if_pos rfl]
   omega
 · show (overL m (xs.set r.toNat (xs.getD r.toNat 0 + n)) ys).getD v.toNat 0=(overL m xs ys).getD v.toNat 0
   rw [over_at,over_at,if_pos (by omega),if_pos (by omega),getD_set _ _ _ _ (by omega),if_neg (by omega)]
theorem stg_more_y (g:Good m rs) (R:Rooted m rs r par dep) (r0:0≤r) (r1:r < m) (yl:(ys.length:Int)=m) (n:Int):stg m rs r par dep (ys.set r.toNat (ys.getD r.toNat 0 + n)) xs r=stg m rs r par dep ys xs r - n:=by
 show gat m rs r par dep _ _ r=gat m rs r par dep _ _ r - n
 rw [gat_root g R r0 r1 (held:=fun v=>(overL m xs ys).getD v.toNat 0) fun v v0 v1 vr=>?_]
 · show _ + ((overL m xs (ys.set r.toNat (ys.getD r.toNat 0 + n))).getD r.toNat 0 - (overL m xs ys).getD r.toNat 0)=_
   rw [over_at,over_at,if_pos (by omega),if_pos (by omega),getD_set _ _ _ _ (by omega),if_pos rfl]
   omega
 · show (overL m xs (ys.set r.toNat (ys.getD r.toNat 0 + n))).getD v.toNat 0=(overL m xs ys).getD v.toNat 0
   rw [over_at,over_at,if_pos (by omega),if_pos (by omega),getD_set _ _ _ _ (by omega),if_neg (by omega)]
end
def cvL (xs ys:List Int):Bool:=(xs.zip ys).all fun p=>decide (p.2≤p.1)
theorem cvL_at {xs ys:List Int} (h:xs.length=ys.length):cvL xs ys=((List.range ys.length).map fun i=>decide (ys.getD i 0≤xs.getD i 0)).all id:=by
 rw [Bool.eq_iff_iff,List.all_eq_true]
 unfold cvL
 rw [List.all_eq_true]
 constructor
 · intro z b hb
   obtain ⟨i,hi,rfl⟩:=List.mem_map.mp hb
   have hi':=List.mem_range.mp hi
   have:=z (xs[i],ys[i]) (by
     refine List.mem_iff_getElem.mpr ⟨i,by rw [List.length_zip]; omega,?_⟩
     rw [List.getElem_zip])
   show decide _=true
   rw [List.getD,List.getD,List.getElem?_eq_getElem hi',List.getElem?_eq_getElem (show i < xs.length by omega)]
   exact this
 · rintro z p hp
   obtain ⟨i,hi,rfl⟩:=List.getElem_of_mem hp
   rw [List.length_zip] at hi
   have:=z _ (List.mem_map.mpr ⟨i,List.mem_range.mpr (by omega),rfl⟩)
   rw [List.getElem_zip]
   change decide _=true at this
   rw [List.getD,List.getD,List.getElem?_eq_getElem (show i < ys.length by omega),List.getElem?_eq_getElem (show i < xs.length by omega)] at this
   exact this
end Pb
set_option Elab.async false
set_option linter.all false
set_option maxRecDepth 100000
set_option maxHeartbeats 4000000
namespace Pk
open PySem L2 Pb
seal L2.PSs L2.PS L2.PE L2.PT L2.PW L2.PA L2.PG L2.PGs L2.PI L2.PTs L2.PC L2.PPs L2.PO
abbrev top (i:Nat):Stmt:=Hd.top i
local macro_rules | `(tactic| walk_at "rd") => `(tactic| ((try dsimp only [tYes, tIsN, tNotN, Ends.less, tRaise_eq, tTry_eq, tHand_eq, tHandN, tFor_eq, tForD, iStr, tJoinR, tComp_eq', iTup, iList, iAny, iRng1, iRng2, iRng3, iEnum, iRev, iZip, cxOf_K, tNever_eq, tListR, tRet, tRetN, tSeq, tNext, tAsg, gName, gTup, gCons, gNil, gSub, tPar3, tAugS, tAug, tMinD, tNotT, ipI, tIfS, tDrop, tTest, tB, tChain, tC, tVar, tOp, tUn, rI0, rI, rU, rEq, rNe, tCall, tMake, tCons, tNil, tTup, tLst, tCB, tBM, tBM0, tFld, sFld, tDIn, tDInN, tDNotIn, sDPut, tDGet, tDisp, tDispT, tPairs, tDNewK, tDNewT, tAnd, tOr, tNot, tAndV, tOrV, tNotV, tIf, List.nil_append, List.append_nil, List.set_cons_zero, List.set_cons_succ, List.getElem?_cons_zero, List.getElem?_cons_succ]); (try simp only [tYes, tIsN, tNotN, Ends.less, tRaise_eq, tTry_eq, tHand_eq, tHandN, tFor_eq, tForD, iStr, tJoinR, tComp_eq', iTup, iList, iAny, iRng1, iRng2, iRng3, iEnum, iRev, iZip, cxOf_K, tNever_eq, tListR, tRet, tRetN, tSeq, tNext, tAsg, gName, gTup, gCons, gNil, gSub, tPar3, tAugS, tAug, tMinD, tNotT, ipI, tIfS, tDrop, tTest, tB, tChain, tC, tVar, tOp, tUn, rI0, rI, rU, rEq, rNe, scal_ii, scal_bb, scal_in, scal_ni, scal_nn, scal_ss, tCall, tMake, tCons, tNil, tTup, tLst, tCB, tBM, tBM0, tFld, sFld, tDIn, tDInN, tDNotIn, sDPut, tDGet, tDisp, tDispT, tPairs, tDNewK, tDNewT, tAnd, tOr, tNot, tAndV, tOrV, tNotV, tIf, List.nil_append, List.append_nil, List.set_cons_zero, List.set_cons_succ, List.getElem?_cons_zero, List.getElem?_cons_succ, Option.some.injEq, V.int.injEq, V.bl.injEq, V.ref.injEq, List.cons.injEq, exists_eq_left, exists_eq_left', exists_and_left, exists_const, and_true, true_and, decide_eq_true_eq, Bool.not_eq_true', decide_eq_false_iff_not, Bool.true_eq_false, Bool.false_eq_true, if_true, if_false])))
set_option genSizeOf false in
set_option genInjectivity false in
structure Txt (K:PySem.W.Frag) (mg:Str→Option Value) where
 BadWeb:Addr
 m_BadWeb:mg "BadWeb"=some (.ref BadWeb)
 NoPlace:Addr
 m_NoPlace:mg "NoPlace"=some (.ref NoPlace)
 NoRoad:Addr
 m_NoRoad:mg "NoRoad"=some (.ref NoRoad)
 BadLaying:Addr
 m_BadLaying:mg "BadLaying"=some (.ref BadLaying)
 BadWish:Addr
 m_BadWish:mg "BadWish"=some (.ref BadWish)
 Web:Addr
 m_Web:mg "Web"=some (.ref Web)
 e_NoPlace:XObj K NoPlace
 e_NoRoad:XObj K NoRoad
 e_BadLaying:XObj K BadLaying
 e_BadWish:XObj K BadWish
 range:mg "range"=none
 len:mg "len"=none
 all:mg "all"=none
 int:mg "int"=none
 tuple:mg "tuple"=none
 list:mg "list"=none
 reversed:mg "reversed"=none
 sorted:mg "sorted"=none
 str:mg "str"=none
 c_MOST_PLACES:∃ t,mg "MOST_PLACES"=some (.int 24 t)
 c_LEAST_TOLL:∃ t,mg "LEAST_TOLL"=some (.int 2 t)
 c_MOST_TOLL:∃ t,mg "MOST_TOLL"=some (.int 1000000 t)
 cl_Web:Cls K Web
 n_many:NoAttr K Web "many"
 n_roads:NoAttr K Web "roads"
section
variable {P:Program} {w:World} {K:PySem.W.Frag} {mg:Str→Option Value} {base:Heap} {CX:CXT}
/-! #### check_counts -/
def sp_check_counts (T:Txt K mg):Sp:=fun vs H Q _=>∃ (m:Int) (t:Addr) (xs:List V),vs=[.int m,.ref t]∧SqT K H t xs∧1≤m∧m≤24∧(xs.length:Int)=m - 1∧Q .non H
abbrev s_check_counts:Stmt:=top 16
theorem sc_check_counts:FnScope ["many","roads"] ["many","roads"] (defScope s_check_counts):=FnScope.of (by kernel_rfl)
theorem n_check_counts__many:NmL (defScope s_check_counts) "many":=.of (by kernel_rfl)
theorem n_check_counts__roads:NmL (defScope s_check_counts) "roads":=.of (by kernel_rfl)
theorem n_check_counts__MOST_PLACES:NmG (defScope s_check_counts) "MOST_PLACES":=.of (by kernel_rfl)
theorem n_check_counts__BadWeb:NmG (defScope s_check_counts) "BadWeb":=.of (by kernel_rfl)
theorem n_check_counts__len:NmG (defScope s_check_counts) "len":=.of (by kernel_rfl)

theorem ok_check_counts (T:Txt K mg) (hq:Quiet (CXe P w)) {f:Addr} {fd:FuncData} (D:Df K mg "check_counts" s_check_counts ["many","roads"] f fd):FnOk P w K mg base (CXe P w) 1 f fd ["many","roads"] (sp_check_counts T):=by
 refine D.F.okC sc_check_counts (fun vs H Q E h=>?_) (fun cdv A outer s H vs Q E hr h=>?_)
 · obtain ⟨m,t,xs,rfl,_⟩:=h
   rfl
 · obtain ⟨m,t,xs,rfl,ht,h1,h2,hl,k⟩:=h
   refine ⟨_,(pss_cons (ps_if (pt_not (pt_chain op_le op_le pe_int (pvl 0 n_check_counts__many) (pe_globI n_check_counts__MOST_PLACES.g T.c_MOST_PLACES (hd:=n_check_counts__MOST_PLACES.d)))) (pss_one ps_never) pss_nil) (pss_one (ps_if (pt_cmpR op_ne (pe_callB call_len_seq n_check_counts__len.g T.len pb_len (pa_cons (pvl 1 n_check_counts__roads) pa_nil) (hn:=n_check_counts__len.n) (hdb:=n_check_counts__len.d)) (pe_op op_sub (pvl 0 n_check_counts__many) pe_int) (nomark _)) (pss_one ps_never) pss_nil))),?_⟩
   rw [show L2.start ["many","roads"] [V.int m,V.ref t]=[some (V.int m),some (V.ref t)] from rfl]
   walk_at "rd"
   rw [if_pos h1,if_neg (by omega)]
   exact ⟨xs,.inr ht,by rw [if_neg (by omega)]; exact k⟩
/-! #### is_place -/
def sp_is_place (T:Txt K mg):Sp:=fun vs H Q _=>∃ m n:Int,vs=[.int m,.int n]∧Q (.bl (decide (0≤n) && decide (n < m))) H
abbrev s_is_place:Stmt:=top 15
theorem sc_is_place:FnScope ["many","number"] ["many","number"] (defScope s_is_place):=FnScope.of (by kernel_rfl)
theorem n_is_place__many:NmL (defScope s_is_place) "many":=.of (by kernel_rfl)
theorem n_is_place__number:NmL (defScope s_is_place) "number":=.of (by kernel_rfl)

theorem ok_is_place (T:Txt K mg) (hq:Quiet (CXe P w)) {f:Addr} {fd:FuncData} (D:Df K mg "is_place" s_is_place ["many","number"] f fd):FnOk P w K mg base (CXe P w) 1 f fd ["many","number"] (sp_is_place T):=by
 refine D.F.okC sc_is_place (fun vs H Q E h=>?_) (fun cdv A outer s H vs Q E hr h=>?_)
 · obtain ⟨m,n,rfl,_⟩:=h
   rfl
 · obtain ⟨m,n,rfl,k⟩:=h
   refine ⟨_,(pss_one (ps_ret (pe_chain op_le op_lt pe_int (pvl 1 n_is_place__number) (pvl 0 n_is_place__many)))),?_⟩
   rw [show L2.start ["many","number"] [V.int m,V.int n]=[some (V.int m),some (V.int n)] from rfl]
   walk_at "rd"
   by_cases c:0≤n
   · simpa [c] using k
   · simpa [c] using k
/-! #### check_ends -/
def sp_check_ends (T:Txt K mg):Sp:=fun vs H Q _=>∃ (m:Int) (p:Addr) (r:Road),vs=[.int m,.ref p]∧H p=some (.tup (vRoad r))∧0≤r.a∧r.a < m∧0≤r.b∧r.b < m∧r.a≠r.b∧Q .non H
abbrev s_check_ends:Stmt:=top 17
theorem sc_check_ends:FnScope ["many","road"] ["many","road"] (defScope s_check_ends):=FnScope.of (by kernel_rfl)
theorem n_check_ends__many:NmL (defScope s_check_ends) "many":=.of (by kernel_rfl)
theorem n_check_ends__road:NmL (defScope s_check_ends) "road":=.of (by kernel_rfl)
theorem n_check_ends__is_place:NmG (defScope s_check_ends) "is_place":=.of (by kernel_rfl)
theorem n_check_ends__BadWeb:NmG (defScope s_check_ends) "BadWeb":=.of (by kernel_rfl)

theorem ok_check_ends (T:Txt K mg) (hq:Quiet (CXe P w)) {f:Addr} {fd:FuncData} (D:Df K mg "check_ends" s_check_ends ["many","road"] f fd) {f_is_place:Addr} {fd_is_place:FuncData} (D_is_place:Df K mg "is_place" s_is_place ["many","number"] f_is_place fd_is_place) (G_is_place:FnOk P w K mg base (CXe P w) 1 f_is_place fd_is_place ["many","number"] (sp_is_place T)):FnOk P w K mg base (CXe P w) 2 f fd ["many","road"] (sp_check_ends T):=by
 refine D.F.okC sc_check_ends (fun vs H Q E h=>?_) (fun cdv A outer s H vs Q E hr h=>?_)
 · obtain ⟨m,p,r,rfl,_⟩:=h
   rfl
 · obtain ⟨m,p,r,rfl,hp,a0,a1,b0,b1,ne,k⟩:=h
   refine ⟨_,(pss_cons (ps_if (PW.pt (pw_or (pt_not (pt_val (pe_call G_is_place (hr.mono (by decide)) n_check_ends__is_place.g D_is_place.m D_is_place.F.kp D_is_place.b .nil (passQ hq) (pa_cons (pvl 0 n_check_ends__many) (pa_cons (pe_ix ix_tup (pvl 1 n_check_ends__road) pe_int (fun _ _=>rfl)) pa_nil)) (hdb:=n_check_ends__is_place.d)))) (pw_or1 (pt_not (pt_val (pe_call G_is_place (hr.mono (by decide)) n_check_ends__is_place.g D_is_place.m D_is_place.F.kp D_is_place.b .nil (passQ hq) (pa_cons (pvl 0 n_check_ends__many) (pa_cons (pe_ix ix_tup (pvl 1 n_check_ends__road) pe_int (fun _ _=>rfl)) pa_nil)) (hdb:=n_check_ends__is_place.d))))))) (pss_one ps_never) pss_nil) (pss_one (ps_if (pt_cmpR op_eq (pe_ix ix_tup (pvl 1 n_check_ends__road) pe_int (fun _ _=>rfl)) (pe_ix ix_tup (pvl 1 n_check_ends__road) pe_int (fun _ _=>rfl)) (nomark _)) (pss_one ps_never) pss_nil))),?_⟩
   rw [show L2.start ["many","road"] [V.int m,V.ref p]=[some (V.int m),some (V.ref p)] from rfl]
   walk_at "rd"
   refine ixT hp rfl ⟨m,r.a,rfl,_,rfl,?_⟩
   rw [if_neg (by simp [a0,a1])]
   refine ixT hp rfl ⟨m,r.b,rfl,_,rfl,?_⟩
   rw [if_neg (by simp [b0,b1])]
   refine ixT hp rfl (ixT hp rfl ⟨rfl,?_⟩)
   rw [if_neg (by simpa using ne)]
   exact k
/-! #### other_ends -/
def sp_other_ends (T:Txt K mg):Sp:=fun vs H Q _=>∃ (t:Addr) (ps:List Addr) (rs:List Road) (n:Int),vs=[.ref t,.int n]∧SqT K H t (ps.map V.ref)∧RoadsAt H ps rs∧rs.length≤1000 ∧
 ∀ l H',H l=none→Same H H'→H' l=some (.lst ((ends rs n).map V.int))→Q (.ref l) H'
abbrev s_other_ends:Stmt:=top 20
theorem sc_other_ends:FnScope ["roads","place","ends","road"] ["roads","place"] (defScope s_other_ends):=FnScope.of (by kernel_rfl)
theorem n_other_ends__roads:NmL (defScope s_other_ends) "roads":=.of (by kernel_rfl)
theorem n_other_ends__place:NmL (defScope s_other_ends) "place":=.of (by kernel_rfl)
theorem n_other_ends__ends:NmL (defScope s_other_ends) "ends":=.of (by kernel_rfl)
theorem n_other_ends__road:NmL (defScope s_other_ends) "road":=.of (by kernel_rfl)

theorem ok_other_ends (T:Txt K mg) (hq:Quiet (CXe P w)) {f:Addr} {fd:FuncData} (D:Df K mg "other_ends" s_other_ends ["roads","place"] f fd):FnOk P w K mg base (CXe P w) 1 f fd ["roads","place"] (sp_other_ends T):=by
 refine D.F.okC sc_other_ends (fun vs H Q E h=>?_) (fun cdv A outer s H vs Q E hr h=>?_)
 · obtain ⟨t,ps,rs,n,rfl,_⟩:=h
   rfl
 · obtain ⟨t,ps,rs,n,rfl,ht,hp,hl,k⟩:=h
   refine ⟨_,(pss_cons (ps_set (i:=2) sc_other_ends.nd rfl (Or.inl n_other_ends__ends.l) (pe_lst pa_nil)) (pss_cons (ps_for PassesOwn.never rfl (pi_tup (pvl 0 n_other_ends__roads)) (pg_name (i:=3) sc_other_ends.nd rfl (Or.inl n_other_ends__road.l)) (pss_cons (ps_if (pt_cmpR op_eq (pe_ix ix_tup (pvl 3 n_other_ends__road) pe_int (fun _ _=>rfl)) (pvl 1 n_other_ends__place) (nomark _)) (pss_one (ps_expr (pe_bm PySem.F.plainAttrs_list PySem.F.slot_list_append PySem.F.type_list_append mt_append (pvl 2 n_other_ends__ends) (pa_cons (pe_ix ix_tup (pvl 3 n_other_ends__road) pe_int (fun _ _=>rfl)) pa_nil)))) pss_nil) (pss_one (ps_if (pt_cmpR op_eq (pe_ix ix_tup (pvl 3 n_other_ends__road) pe_int (fun _ _=>rfl)) (pvl 1 n_other_ends__place) (nomark _)) (pss_one (ps_expr (pe_bm PySem.F.plainAttrs_list PySem.F.slot_list_append PySem.F.type_list_append mt_append (pvl 2 n_other_ends__ends) (pa_cons (pe_ix ix_tup (pvl 3 n_other_ends__road) pe_int (fun _ _=>rfl)) pa_nil)))) pss_nil)))) (pss_one (ps_ret (pvl 2 n_other_ends__ends))))),?_⟩
   rw [show L2.start ["roads","place","ends","road"] [V.ref t,V.int n]=[some (V.ref t),some (V.int n),none,none] from rfl]
   walk_at "rd"
   refine ⟨by decide,fun l hn=>?_⟩
   have hlen:ps.length=rs.length:=Paired.length hp
   refine ⟨⟨_,Same.tup (Same.new _ hn) ht⟩,for_tup (xs:=ps.map V.ref) (fun i σ H2=>H2=upd H l (.lst ((ends (rs.take i) n).map V.int))∧∃ v,σ=[some (.ref t),some (.int n),some (.ref l),v]) ⟨rfl,_,rfl⟩ (fun i σ H2 _ z=>by rw [z.1]; exact Same.tup (Same.new _ hn) ht) ?_ ?_⟩
   · rintro i x σ H2 hi ⟨rfl,v,rfl⟩
     obtain ⟨p,r,rfl,h1,h2,h3⟩:=hp.get hi
     have np:p≠l:=ne_of_none h3 hn
     have hil:i < rs.length:=(List.getElem?_eq_some_iff.mp h2).1
     have et:rs.take (i + 1)=rs.take i ++ [r]:=by rw [List.take_succ,h2]; rfl
     have hb:(ends (rs.take i) n).length≤2000:=Nat.le_trans (ends_len _ _) (by rw [List.length_take]; omega)
     have hx:∀ o,upd H l o p=some (.tup (vRoad r)):=fun o=>by rw [upd_ne np]; exact h3
     walk_at "rd"
     refine ixT (hx _) rfl ?_
     walk_at "rd"
     have fin:∀ (ys:List Int),(ends (rs.take i) n ++ ys)=ends (rs.take (i + 1)) n→upd H l (.lst ((ends (rs.take i) n).map V.int ++ ys.map V.int))=upd H l (.lst ((ends (rs.take (i + 1)) n).map V.int)):=fun ys e=>by
       rw [← List.map_append,e]
     have e1:ends1 n r=(if r.a=n then [r.b] else []) ++ (if r.b=n then [r.a] else []):=rfl
     by_cases ca:r.a=n
     · rw [if_pos ca]
       refine ⟨tyL upd_same,ixT (hx _) rfl (appR upd_same (small (by rw [List.length_map]; omega)) ?_)⟩
       rw [upd_upd]
       refine ixT (hx _) rfl ?_
       walk_at "rd"
       by_cases cb:r.b=n
       · rw [if_pos cb]
         refine ⟨tyL upd_same,ixT (hx _) rfl (appR upd_same (small (by rw [List.length_append,List.length_map]; simp; omega)) ?_)⟩
         rw [upd_upd,List.append_assoc]
         exact ⟨fin [r.b,r.a] (by rw [et,ends_snoc,e1,if_pos ca,if_pos cb]; rfl),_,rfl⟩
       · rw [if_neg cb]
         exact ⟨fin [r.b] (by rw [et,ends_snoc,e1,if_pos ca,if_neg cb]; rfl),_,rfl⟩
     · rw [if_neg ca]
       refine ixT (hx _) rfl ?_
       walk_at "rd"
       by_cases cb:r.b=n
       · rw [if_pos cb]
         refine ⟨tyL upd_same,ixT (hx _) rfl (appR upd_same (small (by rw [List.length_map]; omega)) ?_)⟩
         rw [upd_upd]
         exact ⟨fin [r.a] (by rw [et,ends_snoc,e1,if_neg ca,if_pos cb]; rfl),_,rfl⟩
       · rw [if_neg cb]
         have:=fin [] (by rw [et,ends_snoc,e1,if_neg ca,if_neg cb]; rfl)
         rw [List.map_nil,List.append_nil] at this
         exact ⟨this,_,rfl⟩
   · rintro σ H2 ⟨rfl,v,rfl⟩
     rw [List.length_map,hlen,List.take_length]
     exact ⟨_,rfl,k l _ hn (Same.new _ hn) upd_same⟩
/-! #### check_joined -/
def kvsOf (ks:List Int):List (Key × V):=ks.map fun k=>((Sum.inl k:Key),V.bl true)
theorem kvsOf_len (ks:List Int):(kvsOf ks).length=ks.length:=by unfold kvsOf; rw [List.length_map]
theorem valV_kvs (ks:List Int) (e:Int):valV (kvsOf ks) (Sum.inl e:Key)=if e∈ks then some (V.bl true) else none:=by
 unfold kvsOf
 induction ks with
 | nil=>rfl
 | cons k ks ih =>
   rw [List.map_cons]
   by_cases c:k=e
   · rw [valV_pos (by rw [c]),if_pos (by rw [c]; exact List.mem_cons_self)]
   · rw [valV_neg (fun z=>c (Sum.inl.inj z)),ih]
     by_cases d:e∈ks
     · rw [if_pos d,if_pos (List.mem_cons_of_mem _ d)]
     · rw [if_neg d,if_neg (fun z=>by rcases List.mem_cons.mp z with z | z; exact c z.symm; exact d z)]
theorem putK_kvs {ks:List Int} {e:Int} (h:e ∉ ks):putK (kvsOf ks) (Sum.inl e:Key) (V.bl true)=kvsOf (ks ++ [e]):=by
 rw [putK_new _ (by rw [valV_kvs,if_neg h])]
 unfold kvsOf
 rw [List.map_append]
 rfl
def sp_check_joined (T:Txt K mg):Sp:=fun vs H Q _=>∃ (m:Int) (t:Addr) (ps:List Addr) (rs:List Road),vs=[.int m,.ref t]∧SqT K H t (ps.map V.ref)∧RoadsAt H ps rs∧Good m rs∧∀ H',Same H H'→Q .non H'
abbrev s_check_joined:Stmt:=top 19
theorem sc_check_joined:FnScope ["many","roads","reached","waiting","place","end"] ["many","roads"] (defScope s_check_joined):=FnScope.of (by kernel_rfl)
theorem n_check_joined__many:NmL (defScope s_check_joined) "many":=.of (by kernel_rfl)
theorem n_check_joined__roads:NmL (defScope s_check_joined) "roads":=.of (by kernel_rfl)
theorem n_check_joined__reached:NmL (defScope s_check_joined) "reached":=.of (by kernel_rfl)
theorem n_check_joined__waiting:NmL (defScope s_check_joined) "waiting":=.of (by kernel_rfl)
theorem n_check_joined__place:NmL (defScope s_check_joined) "place":=.of (by kernel_rfl)
theorem n_check_joined__end:NmL (defScope s_check_joined) "end":=.of (by kernel_rfl)
theorem n_check_joined__other_ends:NmG (defScope s_check_joined) "other_ends":=.of (by kernel_rfl)
theorem n_check_joined__len:NmG (defScope s_check_joined) "len":=.of (by kernel_rfl)
theorem n_check_joined__BadWeb:NmG (defScope s_check_joined) "BadWeb":=.of (by kernel_rfl)

theorem ok_check_joined (T:Txt K mg) (hq:Quiet (CXe P w)) {f:Addr} {fd:FuncData} (D:Df K mg "check_joined" s_check_joined ["many","roads"] f fd) {f_other_ends:Addr} {fd_other_ends:FuncData} (D_other_ends:Df K mg "other_ends" s_other_ends ["roads","place"] f_other_ends fd_other_ends) (G_other_ends:FnOk P w K mg base (CXe P w) 1 f_other_ends fd_other_ends ["roads","place"] (sp_other_ends T)):FnOk P w K mg base (CXe P w) 2 f fd ["many","roads"] (sp_check_joined T):=by
 refine D.F.okC sc_check_joined (fun vs H Q E h=>?_) (fun cdv A outer s H vs Q E hr h=>?_)
 · obtain ⟨m,t,ps,rs,rfl,_⟩:=h
   rfl
 · obtain ⟨m,t,ps,rs,rfl,ht,hp,g,k⟩:=h
   have hu:=hu_of hr
   refine ⟨_,(pss_cons (ps_set (i:=2) sc_check_joined.nd rfl (Or.inl n_check_joined__reached.l) (pe_disp (pps_cons pe_int pe_bl pps_nil) rfl rfl (List.cons_ne_nil _ _) (by decide))) (pss_cons (ps_set (i:=3) sc_check_joined.nd rfl (Or.inl n_check_joined__waiting.l) (pe_lst (pa_cons pe_int pa_nil))) (pss_cons (ps_while PassesOwn.never (pt_truth (pvl 3 n_check_joined__waiting) (fun _=>rfl)) (pss_cons (ps_set (i:=4) sc_check_joined.nd rfl (Or.inl n_check_joined__place.l) (pe_bm0 PySem.F.plainAttrs_list PySem.F.slot_list_pop PySem.F.type_list_pop mt_pop (pvl 3 n_check_joined__waiting))) (pss_one (ps_for PassesOwn.never rfl (pi_list (pe_call G_other_ends (hr.mono (by decide)) n_check_joined__other_ends.g D_other_ends.m D_other_ends.F.kp D_other_ends.b .nil (passQ hq) (pa_cons (pvl 1 n_check_joined__roads) (pa_cons (pvl 4 n_check_joined__place) pa_nil)) (hdb:=n_check_joined__other_ends.d))) (pg_name (i:=5) sc_check_joined.nd rfl (Or.inl n_check_joined__end.l)) (pss_one (ps_if (pt_cmp (pc_dnotin hu (pvl 5 n_check_joined__end) (pvl 2 n_check_joined__reached))) (pss_cons (ps_dput hu (pvl 2 n_check_joined__reached) (pvl 5 n_check_joined__end) pe_bl rfl) (pss_one (ps_expr (pe_bm PySem.F.plainAttrs_list PySem.F.slot_list_append PySem.F.type_list_append mt_append (pvl 3 n_check_joined__waiting) (pa_cons (pvl 5 n_check_joined__end) pa_nil))))) pss_nil)))))) (pss_one (ps_if (pt_cmpR op_ne (pe_callB call_lenD n_check_joined__len.g T.len pb_len (pa_cons (pvl 2 n_check_joined__reached) pa_nil) (hn:=n_check_joined__len.n) (hdb:=n_check_joined__len.d)) (pvl 0 n_check_joined__many) (nomark _)) (pss_one ps_never) pss_nil))))),?_⟩
   rw [show L2.start ["many","roads","reached","waiting","place","end"] [V.int m,V.ref t]=[some (V.int m),some (V.ref t),none,none,none,none] from rfl]
   have m1:=g.m1
   have m24:=g.m24
   have glen:=g.len
   walk_at "rd"
   intro d hd
   refine ⟨upd_same,[(Sum.inl 0,.bl true)],rfl,by decide,?_⟩
   rw [upd_upd]
   refine ⟨by decide,fun w0 hw=>?_⟩
   have ed:mergeK [] [((Sum.inl 0:Key),V.bl true)]=kvsOf [0]:=rfl
   rw [ed]
   have ndw:w0≠d:=fun z=>by rw [z,upd_same] at hw; cases hw
   have hw0:H w0=none:=by rw [upd_ne ndw] at hw; exact hw
   refine while_n (fun n σ H2=>∃ (ks ws:List Int) (v4 v5:Option V),n=2 * (m.toNat - ks.length) + ws.length∧σ=[some (.int m),some (.ref t),some (.ref d),some (.ref w0),v4,v5]∧Same H H2∧H2 d=some (.dK (kvsOf ks))∧H2 w0=some (.lst (ws.map V.int))∧JInv m rs ks ws) _ ⟨[0],[0],none,none,rfl,rfl,?_,?_,upd_same,JInv.start m1⟩ ?_
   · exact Same.trans (Same.new _ hd) (Same.new _ hw)
   · rw [upd_ne ndw.symm,upd_same]
   rintro n σ H2 NW hN hN2 ⟨ks,ws,v4,v5,rfl,rfl,sm,h1,h2,J⟩
   have kl:=nodup_len (by omega) J.nd J.rng
   refine ⟨_,rfl,!(ws.map V.int).isEmpty,.inl ⟨_,SqL.of h2,rfl⟩,?_⟩
   rcases List.eq_nil_or_concat ws with rfl | ⟨ws',p,rfl⟩
   · -- nothing waits: all places have been reached
     have full:=J.all m1 g.jn
     refine iteF ?_
     walk_at "rd"
     refine ⟨kvsOf ks,h1,?_⟩
     rw [kvsOf_len,if_neg (by omega)]
     exact k _ sm
   · rw [List.concat_eq_append] at J h2 hN hN2 ⊢
     have e1:(!(List.map V.int (ws' ++ [p])).isEmpty)=true:=by simp
     rw [e1]
     refine iteT ⟨NW,hN2,?_⟩
     walk_at "rd"
     rw [List.map_append,List.map_cons,List.map_nil] at h2
     refine ⟨tyL h2,popR h2 ?_⟩
     have ndw':d≠w0:=ndw.symm
     have sm2:Same H (upd H2 w0 (.lst (ws'.map V.int))):=fun b o e=>by rw [upd_ne (ne_of_none e hw0)]; exact sm b o e
     refine ⟨t,ps,rs,p,rfl,Same.tup sm2 ht,RoadsAt.same sm2 hp,by omega,fun l H3 hn s3 hl=>?_⟩
     have nlw:w0≠l:=ne_of_none (o:=.lst (ws'.map V.int)) upd_same hn
     have nld:d≠l:=ne_of_none (o:=.dK (kvsOf ks)) (by rw [upd_ne ndw']; exact h1) hn
     have hl0:H l=none:=sm2.free hn
     refine ⟨l,rfl,⟨_,SqL.of hl⟩,for_listN (K:=K) (xs:=(ends rs p).map V.int) (fun i σ H4=>∃ (v5:Option V),σ=[some (.int m),some (.ref t),some (.ref d),some (.ref w0),some (.int p),v5]∧Same H H4∧H4 l=some (.lst ((ends rs p).map V.int)) ∧
       ∃ ks4 ws4:List Int,H4 d=some (.dK (kvsOf ks4))∧H4 w0=some (.lst (ws4.map V.int))∧JMid m rs p ((ends rs p).take i) ks4 ws4 ks ws'.length) ?_ (fun i σ H4 _ z=>by obtain ⟨_,_,_,z,_⟩:=z; exact SqL.of z) ?_ ?_⟩
     · refine ⟨_,rfl,sm2.trans s3,hl,ks,ws',?_,?_,?_⟩
       · exact s3 _ _ (by rw [upd_ne ndw']; exact h1)
       · exact s3 _ _ upd_same
       · rw [List.take_zero]; exact JMid.start J
     · rintro i x σ H4 NI hI hi ⟨v5,rfl,s4,hl4,ks4,ws4,hd4,hw4,M⟩
       rw [List.getElem?_map] at hi
       obtain ⟨e,he,rfl⟩:∃ e,(ends rs p)[i]?=some e∧V.int e=x:=by
         cases q:(ends rs p)[i]? with
         | none=>rw [q] at hi; cases hi
         | some e=>rw [q] at hi; exact ⟨e,rfl,Option.some.inj hi⟩
       have er:=ends_rng g.ok (List.mem_of_getElem? he)
       have et:(ends rs p).take (i + 1)=(ends rs p).take i ++ [e]:=by rw [List.take_succ,he]; rfl
       have st:=M.step er.1 er.2
       have k4:=nodup_len (by omega) M.nd M.rng
       have mu4:=M.mu
       walk_at "rd"
       refine ⟨_,DGet.k (k:=Sum.inl e) hd4,?_⟩
       rw [valV_kvs]
       by_cases c:e∈ks4
       · rw [if_pos c]
         rw [if_neg (by simp)]
         refine hI _ _ ⟨_,rfl,s4,hl4,ks4,ws4,hd4,hw4,?_⟩
         rw [et]
         unfold jstep at st
         rw [if_pos c] at st
         exact st
       · rw [if_neg c]
         rw [if_pos (by simp)]
         refine ⟨_,DPut.k (k:=Sum.inl e) hd4 (small (by rw [kvsOf_len]; omega)),?_⟩
         rw [putK_kvs c]
         have hw5:upd H4 d (.dK (kvsOf (ks4 ++ [e]))) w0=some (.lst (ws4.map V.int)):=by rw [upd_ne ndw]; exact hw4
         refine ⟨tyL hw5,appR hw5 (small (by rw [List.length_map]; have:=M.wl; omega)) ?_⟩
         have hmid:=M.mu
         refine hI _ _ ⟨_,rfl,fun b o z=>?_,?_,ks4 ++ [e],ws4 ++ [e],?_,?_,?_⟩
         · rw [upd_ne (ne_of_none z hw0),upd_ne (ne_of_none z hd)]; exact s4 b o z
         · rw [upd_ne nlw.symm,upd_ne nld.symm]; exact hl4
         · rw [upd_ne ndw',upd_same]
         · rw [upd_same,List.map_append]; rfl
         · rw [et]
           unfold jstep at st
           rw [if_neg c] at st
           exact st
     · rintro σ H4 ⟨v5,rfl,s4,hl4,ks4,ws4,hd4,hw4,M⟩
       rw [List.length_map,List.take_length] at M
       have k4:=nodup_len (by omega) M.nd M.rng
       have mu4:=M.mu
       have up4:=M.up
       refine hN _ _ _ ?_ ⟨ks4,ws4,some (.int p),v5,rfl,rfl,s4,hd4,hw4,M.done⟩
       rw [List.length_append]
       simp only [List.length_cons,List.length_nil]
       omega
/-! #### check_tolls -/
def sp_check_tolls (T:Txt K mg):Sp:=fun vs H Q _=>∃ (p:Addr) (r:Road),vs=[.ref p]∧H p=some (.tup (vRoad r))∧2≤r.t∧r.t≤1000000∧2≤r.u∧r.u≤1000000∧∀ H',Same H H'→Q .non H'
abbrev s_check_tolls:Stmt:=top 18
theorem sc_check_tolls:FnScope ["road","number"] ["road"] (defScope s_check_tolls):=FnScope.of (by kernel_rfl)
theorem n_check_tolls__road:NmL (defScope s_check_tolls) "road":=.of (by kernel_rfl)
theorem n_check_tolls__number:NmL (defScope s_check_tolls) "number":=.of (by kernel_rfl)
theorem n_check_tolls__LEAST_TOLL:NmG (defScope s_check_tolls) "LEAST_TOLL":=.of (by kernel_rfl)
theorem n_check_tolls__MOST_TOLL:NmG (defScope s_check_tolls) "MOST_TOLL":=.of (by kernel_rfl)
theorem n_check_tolls__BadWeb:NmG (defScope s_check_tolls) "BadWeb":=.of (by kernel_rfl)

theorem ok_check_tolls (T:Txt K mg) (hq:Quiet (CXe P w)) {f:Addr} {fd:FuncData} (D:Df K mg "check_tolls" s_check_tolls ["road"] f fd):FnOk P w K mg base (CXe P w) 1 f fd ["road"] (sp_check_tolls T):=by
 refine D.F.okC sc_check_tolls (fun vs H Q E h=>?_) (fun cdv A outer s H vs Q E hr h=>?_)
 · obtain ⟨p,r,rfl,_⟩:=h
   rfl
 · obtain ⟨p,r,rfl,hp,t0,t1,u0,u1,k⟩:=h
   refine ⟨_,(pss_one (ps_for PassesOwn.never rfl (pi_tup (pe_tup (pa_cons (pe_ix ix_tup (pvl 0 n_check_tolls__road) pe_int (fun _ _=>rfl)) (pa_cons (pe_ix ix_tup (pvl 0 n_check_tolls__road) pe_int (fun _ _=>rfl)) pa_nil)))) (pg_name (i:=1) sc_check_tolls.nd rfl (Or.inl n_check_tolls__number.l)) (pss_one (ps_if (pt_not (pt_chain op_le op_le (pe_globI n_check_tolls__LEAST_TOLL.g T.c_LEAST_TOLL (hd:=n_check_tolls__LEAST_TOLL.d)) (pvl 1 n_check_tolls__number) (pe_globI n_check_tolls__MOST_TOLL.g T.c_MOST_TOLL (hd:=n_check_tolls__MOST_TOLL.d)))) (pss_one ps_never) pss_nil)))),?_⟩
   rw [show L2.start ["road","number"] [V.ref p]=[some (V.ref p),none] from rfl]
   walk_at "rd"
   refine ixT hp rfl (ixT hp rfl ⟨smallE (by simp),fun q hn=>?_⟩)
   have e1:upd H q (.tup [.int r.t,.int r.u]) q=some (.tup [.int r.t,.int r.u]):=upd_same
   refine ⟨⟨_,SqT.of e1⟩,for_tup (K:=K) (xs:=[.int r.t,.int r.u]) (fun i σ H2=>H2=upd H q (.tup [.int r.t,.int r.u])∧∃ v,σ=[some (.ref p),v]) ⟨rfl,_,rfl⟩ (fun i σ H2 _ z=>by rw [z.1]; exact SqT.of e1) ?_ ?_⟩
   · rintro i x σ H2 hi ⟨rfl,v,rfl⟩
     have hx:∃ n:Int,x=.int n∧2≤n∧n≤1000000:=by
       match i,hi with
       | 0,hi=>exact ⟨r.t,by simpa using hi.symm,t0,t1⟩
       | 1,hi=>exact ⟨r.u,by simpa using hi.symm,u0,u1⟩
     obtain ⟨n,rfl,n0,n1⟩:=hx
     walk_at "rd"
     rw [if_pos n0,if_neg (by omega)]
     exact ⟨_,rfl⟩
   · rintro σ H2 ⟨rfl,v,rfl⟩
     exact k _ (Same.new _ hn)
/-! #### Web.__init__ -/
/-- the attributes of a web -/
def wflds (m:Int) (t:Addr):List (Str × V):=putF "roads" (.ref t) (putF "many" (.int m) [])
theorem ne_mr:¬ (("many":Str)="roads"):=by decide +kernel
theorem wflds_many (m:Int) (t:Addr):(wflds m t).lookup ("many":Str)=some (.int m):=by
 unfold wflds
 rw [lookup_putF,if_neg ne_mr,lookup_putF,if_pos rfl]
theorem wflds_roads (m:Int) (t:Addr):(wflds m t).lookup ("roads":Str)=some (.ref t):=by
 unfold wflds
 rw [lookup_putF,if_pos rfl]
/-- a web of m places and the roads rs stands at p,its tuple at t,the roads' tuples at ps -/
structure WebAt (C:Addr) (H:Hp) (p:Addr) (m:Int) (t:Addr) (ps:List Addr) (rs:List Road):Prop where
 ob:∃ dx,H p=some (.ins C dx (wflds m t))
 tu:H t=some (.tup (ps.map V.ref))
 ro:RoadsAt H ps rs
 go:Good m rs
theorem WebAt.same {C:Addr} {H H':Hp} {p:Addr} {m:Int} {t:Addr} {ps:List Addr} {rs:List Road} (e:Same H H') (h:WebAt C H p m t ps rs):WebAt C H' p m t ps rs :=
 ⟨let ⟨dx,q⟩:=h.ob; ⟨dx,e _ _ q⟩,e _ _ h.tu,RoadsAt.same e h.ro,h.go⟩
def sp_Web___init__ (T:Txt K mg):Sp:=fun vs H Q _=>∃ (p dx:Addr) (m:Int) (c:Bool) (a:Addr) (ps:List Addr) (rs:List Road),vs=[.ref p,.int m,.ref a]∧H p=some (.ins T.Web dx [])∧SqX K c H a (ps.map V.ref)∧RoadsAt H ps rs∧Good m rs ∧
 ∀ t H',H t=none→WebAt T.Web H' p m t ps rs→(∀ b o,H b=some o→b≠p→H' b=some o)→Q .non H'
abbrev s_Web___init__:Stmt:=inClass (top 11) 0
theorem sc_Web___init__:FnScope ["self","many","roads","kept","road"] ["self","many","roads"] (defScope s_Web___init__):=FnScope.of (by kernel_rfl)
theorem n_Web___init____self:NmL (defScope s_Web___init__) "self":=.of (by kernel_rfl)
theorem n_Web___init____many:NmL (defScope s_Web___init__) "many":=.of (by kernel_rfl)
theorem n_Web___init____roads:NmL (defScope s_Web___init__) "roads":=.of (by kernel_rfl)
theorem n_Web___init____kept:NmL (defScope s_Web___init__) "kept":=.of (by kernel_rfl)
theorem n_Web___init____road:NmL (defScope s_Web___init__) "road":=.of (by kernel_rfl)
theorem n_Web___init____tuple:NmG (defScope s_Web___init__) "tuple":=.of (by kernel_rfl)
theorem n_Web___init____check_counts:NmG (defScope s_Web___init__) "check_counts":=.of (by kernel_rfl)
theorem n_Web___init____check_ends:NmG (defScope s_Web___init__) "check_ends":=.of (by kernel_rfl)
theorem n_Web___init____check_tolls:NmG (defScope s_Web___init__) "check_tolls":=.of (by kernel_rfl)
theorem n_Web___init____check_joined:NmG (defScope s_Web___init__) "check_joined":=.of (by kernel_rfl)

theorem ok_Web___init__ (T:Txt K mg) (hq:Quiet (CXe P w)) {f:Addr} {fd:FuncData} (F:Fun K "__init__" "Web.__init__" s_Web___init__ f fd) {f_check_counts:Addr} {fd_check_counts:FuncData} (D_check_counts:Df K mg "check_counts" s_check_counts ["many","roads"] f_check_counts fd_check_counts) (G_check_counts:FnOk P w K mg base (CXe P w) 1 f_check_counts fd_check_counts ["many","roads"] (sp_check_counts T)) {f_check_ends:Addr} {fd_check_ends:FuncData} (D_check_ends:Df K mg "check_ends" s_check_ends ["many","road"] f_check_ends fd_check_ends) (G_check_ends:FnOk P w K mg base (CXe P w) 2 f_check_ends fd_check_ends ["many","road"] (sp_check_ends T)) {f_check_joined:Addr} {fd_check_joined:FuncData} (D_check_joined:Df K mg "check_joined" s_check_joined ["many","roads"] f_check_joined fd_check_joined) (G_check_joined:FnOk P w K mg base (CXe P w) 2 f_check_joined fd_check_joined ["many","roads"] (sp_check_joined T)) {f_check_tolls:Addr} {fd_check_tolls:FuncData} (D_check_tolls:Df K mg "check_tolls" s_check_tolls ["road"] f_check_tolls fd_check_tolls) (G_check_tolls:FnOk P w K mg base (CXe P w) 1 f_check_tolls fd_check_tolls ["road"] (sp_check_tolls T)):FnOk P w K mg base (CXe P w) 3 f fd ["self","many","roads"] (sp_Web___init__ T):=by
 refine F.okC sc_Web___init__ (fun vs H Q E h=>?_) (fun cdv A outer s H vs Q E hr h=>?_)
 · obtain ⟨p,dx,m,c,a,ps,rs,rfl,_⟩:=h
   rfl
 · obtain ⟨p,dx,m,c,a,ps,rs,rfl,hp,ha,hro,g,k⟩:=h
   refine ⟨_,(pss_cons (ps_set (i:=3) sc_Web___init__.nd rfl (Or.inl n_Web___init____kept.l) (pe_callTy call_tuple_of n_Web___init____tuple.g T.tuple pb_tuple (pa_cons (pe_comp rfl (ct_plain (Nc:=["road"]) 1 (by decide +kernel) (by decide +kernel) rfl (by decide +kernel) rfl) (pi_any c (pvl 2 n_Web___init____roads)) (fun _ _ _ _=>(pg_name (i:=0) (show (["road"]:List Str).Nodup from by decide +kernel) rfl (Or.inl rfl))) (fun _ _ _ _=>pts_nil) (fun _ _ _ _=>(pe_callTy (call_tuple_ofK K rfl) (by rfl) T.tuple pb_tuple (pa_cons (pv 0) pa_nil)))) pa_nil) (hn:=n_Web___init____tuple.n) (hdb:=n_Web___init____tuple.d))) (pss_cons (ps_expr (pe_call G_check_counts (hr.mono (by decide)) n_Web___init____check_counts.g D_check_counts.m D_check_counts.F.kp D_check_counts.b .nil (passQ hq) (pa_cons (pvl 1 n_Web___init____many) (pa_cons (pvl 3 n_Web___init____kept) pa_nil)) (hdb:=n_Web___init____check_counts.d))) (pss_cons (ps_for PassesOwn.never rfl (pi_tup (pvl 3 n_Web___init____kept)) (pg_name (i:=4) sc_Web___init__.nd rfl (Or.inl n_Web___init____road.l)) (pss_cons (ps_expr (pe_call G_check_ends (hr.mono (by decide)) n_Web___init____check_ends.g D_check_ends.m D_check_ends.F.kp D_check_ends.b .nil (passQ hq) (pa_cons (pvl 1 n_Web___init____many) (pa_cons (pvl 4 n_Web___init____road) pa_nil)) (hdb:=n_Web___init____check_ends.d))) (pss_one (ps_expr (pe_call G_check_tolls (hr.mono (by decide)) n_Web___init____check_tolls.g D_check_tolls.m D_check_tolls.F.kp D_check_tolls.b .nil (passQ hq) (pa_cons (pvl 4 n_Web___init____road) pa_nil) (hdb:=n_Web___init____check_tolls.d)))))) (pss_cons (ps_expr (pe_call G_check_joined (hr.mono (by decide)) n_Web___init____check_joined.g D_check_joined.m D_check_joined.F.kp D_check_joined.b .nil (passQ hq) (pa_cons (pvl 1 n_Web___init____many) (pa_cons (pvl 3 n_Web___init____kept) pa_nil)) (hdb:=n_Web___init____check_joined.d))) (pss_cons (ps_fld (pvl 0 n_Web___init____self) (pvl 1 n_Web___init____many) rfl) (pss_one (ps_fld (pvl 0 n_Web___init____self) (pvl 3 n_Web___init____kept) rfl))))))),?_⟩
   rw [show L2.start ["self","many","roads","kept","road"] [V.ref p,V.int m,V.ref a]=[some (V.ref p),some (V.int m),some (V.ref a),none,none] from rfl]
   walk_at "rd"
   refine ⟨⟨_,ha⟩,fun l hl=>?_⟩
   have hlen:ps.length=rs.length:=Paired.length hro
   have glen:=g.len
   have m24:=g.m24
   have hl1:Same H (upd H l (.lst [])):=Same.new _ hl
   refine comp_any (K:=K) (xs:=ps.map V.ref) (fun i ys σ H2=>H2=upd H l (.lst ((ps.take i).map V.ref))∧ys=(ps.take i).map V.ref∧∃ v,σ=[v]) ⟨rfl,rfl,_,rfl⟩ (fun i ys σ H2 _ ⟨z,_⟩=>by rw [z]; exact Same.sqX (Same.new _ hl) ha) ?_ ?_
   · rintro i x ys σ H2 N hN hi ⟨rfl,rfl,v,rfl⟩
     obtain ⟨q,r,rfl,h1,h2,h3⟩:=hro.get hi
     have nq:q≠l:=ne_of_none h3 hl
     have hil:i < ps.length:=(List.getElem?_eq_some_iff.mp h1).1
     have et:ps.take (i + 1)=ps.take i ++ [q]:=by rw [List.take_succ,h1]; rfl
     walk_at "rd"
     refine ⟨vRoad r,.inr ⟨SqT.of (by rw [upd_ne nq]; exact h3),upd_same,small (by rw [List.length_map,List.length_take]; omega),hN _ _ _ ⟨?_,?_,_,rfl⟩⟩⟩
     · rw [upd_upd,et,List.map_append]; rfl
     · rw [et,List.map_append]; rfl
   · rintro ys σ H2 ⟨rfl,rfl,v,rfl⟩
     rw [List.length_map,List.take_length]
     refine ⟨l,rfl,ps.map V.ref,.inl ⟨SqL.of upd_same,fun t ht=>?_⟩⟩
     have s1:Same H (upd H l (.lst (ps.map V.ref))):=Same.new _ hl
     have s2:Same (upd H l (.lst (ps.map V.ref))) (upd (upd H l (.lst (ps.map V.ref))) t (.tup (ps.map V.ref))):=Same.new _ ht
     have ht0:H t=none:=s1.free ht
     have ht1:∀ {H':Hp},Same (upd (upd H l (.lst (ps.map V.ref))) t (.tup (ps.map V.ref))) H'→H' t=some (.tup (ps.map V.ref)):=fun e=>e _ _ upd_same
     refine ⟨m,t,ps.map V.ref,rfl,SqT.of upd_same,g.m1,g.m24,by rw [List.length_map]; omega,⟨_,SqT.of upd_same⟩,?_⟩
     refine for_tupN (K:=K) (xs:=ps.map V.ref) (fun i σ H3=>Same (upd (upd H l (.lst (ps.map V.ref))) t (.tup (ps.map V.ref))) H3∧∃ v,σ=[some (.ref p),some (.int m),some (.ref a),some (.ref t),v]) ⟨Same.refl _,_,rfl⟩ (fun i σ H3 _ ⟨z,_⟩=>SqT.of (ht1 z)) ?_ ?_
     · rintro i x σ H3 N hN hi ⟨s3,v,rfl⟩
       have s03:=s1.trans (s2.trans s3)
       obtain ⟨q,r,rfl,h1,h2,h3⟩:=hro.get hi
       have ok:=g.ok r (List.mem_of_getElem? h2)
       walk_at "rd"
       refine ⟨m,q,r,rfl,s03 _ _ h3,ok.a0,ok.a1,ok.b0,ok.b1,ok.ne,?_⟩
       exact ⟨q,r,rfl,s03 _ _ h3,ok.t0,ok.t1,ok.u0,ok.u1,fun H4 s4=>hN _ _ ⟨s3.trans s4,_,rfl⟩⟩
     · rintro σ H3 ⟨s3,v,rfl⟩
       have s03:=s1.trans (s2.trans s3)
       walk_at "rd"
       refine ⟨m,t,ps,rs,rfl,SqT.of (ht1 s3),RoadsAt.same s03 hro,g,fun H4 s4=>?_⟩
       have s04:=s03.trans s4
       have ntp:t≠p:=fun z=>by rw [z,hp] at ht0; cases ht0
       refine ⟨T.Web,dx,[],s04 _ _ hp,T.cl_Web,T.n_many,by decide,?_⟩
       refine ⟨T.Web,dx,_,upd_same,T.cl_Web,T.n_roads,by show 1 < 1000; decide,?_⟩
       rw [upd_upd]
       refine k t _ ht0 ⟨⟨dx,upd_same⟩,?_,?_,g⟩ fun b o hb nb=>?_
       · rw [upd_ne ntp]; exact ht1 (s3.trans s4)
       · refine Paired.imp' (fun q r hq=>?_) hro
         rw [upd_ne (ne_of hq hp (by intro z; cases z))]
         exact s04 _ _ hq
       · rw [upd_ne nb]; exact s04 _ _ hb
/-- Web(m,roads),at a call: nothing is changed,a new web stands -/
theorem mk_web (T:Txt K mg) {H:Hp} {m:Int} {c:Bool} {a:Addr} {ps:List Addr} {rs:List Road} {Q:Addr→Hp→Prop} (ha:SqX K c H a (ps.map V.ref)) (ro:RoadsAt H ps rs) (g:Good m rs)
   (k:∀ x t H',H x=none→H t=none→Same H H'→WebAt T.Web H' x m t ps rs→Q x H') :
   ∀ x dx,H x=none→H dx=none→dx≠x→sp_Web___init__ T [.ref x,.int m,.ref a] (upd (upd H dx (.own x)) x (.ins T.Web dx [])) (fun v H2=>v=.non∧Q x H2) E0:=by
 intro x dx hx hdx ne
 have hx1:upd H dx (.own x) x=none:=by rw [upd_ne ne.symm]; exact hx
 have s0:Same H (upd (upd H dx (.own x)) x (.ins T.Web dx [])):=(Same.new _ hdx).trans (Same.new _ hx1)
 exact ⟨x,dx,m,c,a,ps,rs,rfl,upd_same,Same.sqX s0 ha,RoadsAt.same s0 ro,g,fun t H' ht W kp=>⟨rfl,k x t H' hx (s0.free ht) (fun b o e=>kp b o (s0 b o e) (ne_of_none e hx)) W⟩⟩
/-! #### _law_tolls -/
/-- the dict of the tolls of the first roads -/
def TollsOf (H:Hp) (d:Addr) (rs:List Road) (n:Nat):Prop:=∃ kvs,H d=some (.dT kvs)∧(kvs.length≤2 * n∧∀ p∈kvs,∃ a b:Int,p.1=[.inl a,.inl b])∧∀ a b:Int,(∀ i x,i < n→rs[i]?=some x→Joins x a b→valV kvs [.inl a,.inl b]=(toll1 a b x).map V.int)∧((∀ i x,i < n→rs[i]?=some x→¬ Joins x a b)→valV kvs [.inl a,.inl b]=none)
/-- the dict of the tolls of a web -/
structure TollsAt (H:Hp) (d:Addr) (rs:List Road):Prop where
 ex:∃ kvs,H d=some (.dT kvs)∧∀ a b:Int,valV kvs [.inl a,.inl b]=(tollOf rs a b).map V.int
 ks:∃ kvs,H d=some (.dT kvs)∧kvs.length≤2 * rs.length∧∀ p∈kvs,∃ a b:Int,p.1=[.inl a,.inl b]
theorem TollsAt.same {H H':Hp} {d:Addr} {rs:List Road} (e:Same H H') (h:TollsAt H d rs):TollsAt H' d rs:=by
 obtain ⟨kvs,h1,h2⟩:=h.ex
 obtain ⟨kws,h3,h4⟩:=h.ks
 exact ⟨⟨kvs,e _ _ h1,h2⟩,⟨kws,e _ _ h3,h4⟩⟩
def sp_law_tolls (T:Txt K mg):Sp:=fun vs H Q _=>∃ (l:Addr) (ps:List Addr) (m:Int) (rs:List Road),vs=[.ref l]∧H l=some (.lst (ps.map V.ref))∧RoadsAt H ps rs∧Good m rs∧∀ d H',H d=none→Same H H'→TollsAt H' d rs→Q (.ref d) H'
abbrev s_law_tolls:Stmt:=top 44
theorem sc_law_tolls:FnScope ["roads","tolls","one","other","there","back"] ["roads"] (defScope s_law_tolls):=FnScope.of (by kernel_rfl)
theorem n_law_tolls__roads:NmL (defScope s_law_tolls) "roads":=.of (by kernel_rfl)
theorem n_law_tolls__tolls:NmL (defScope s_law_tolls) "tolls":=.of (by kernel_rfl)
theorem n_law_tolls__one:NmL (defScope s_law_tolls) "one":=.of (by kernel_rfl)
theorem n_law_tolls__other:NmL (defScope s_law_tolls) "other":=.of (by kernel_rfl)
theorem n_law_tolls__there:NmL (defScope s_law_tolls) "there":=.of (by kernel_rfl)
theorem n_law_tolls__back:NmL (defScope s_law_tolls) "back":=.of (by kernel_rfl)

theorem ok_law_tolls (T:Txt K mg) (hq:Quiet (CXe P w)) {f:Addr} {fd:FuncData} (D:Df K mg "_law_tolls" s_law_tolls ["roads"] f fd):FnOk P w K mg base (CXe P w) 1 f fd ["roads"] (sp_law_tolls T):=by
 refine D.F.okC sc_law_tolls (fun vs H Q E h=>?_) (fun cdv A outer s H vs Q E hr h=>?_)
 · obtain ⟨l,ps,m,rs,rfl,_⟩:=h
   rfl
 · obtain ⟨l,ps,m,rs,rfl,hl,ro,g,k⟩:=h
   have hu:=hu_of hr
   refine ⟨_,(pss_cons (ps_set (i:=1) sc_law_tolls.nd rfl (Or.inl n_law_tolls__tolls.l) pe_dnewT) (pss_cons (ps_for PassesOwn.never rfl (pi_list (pvl 0 n_law_tolls__roads)) (pg_tup (n:=4) rfl (pgs_cons (pg_name (i:=2) sc_law_tolls.nd rfl (Or.inl n_law_tolls__one.l)) (pgs_cons (pg_name (i:=3) sc_law_tolls.nd rfl (Or.inl n_law_tolls__other.l)) (pgs_cons (pg_name (i:=4) sc_law_tolls.nd rfl (Or.inl n_law_tolls__there.l)) (pgs_cons (pg_name (i:=5) sc_law_tolls.nd rfl (Or.inl n_law_tolls__back.l)) pgs_nil))))) (pss_cons (ps_dput hu (pvl 1 n_law_tolls__tolls) (pe_tup (pa_cons (pvl 2 n_law_tolls__one) (pa_cons (pvl 3 n_law_tolls__other) pa_nil))) (pvl 4 n_law_tolls__there) rfl) (pss_one (ps_dput hu (pvl 1 n_law_tolls__tolls) (pe_tup (pa_cons (pvl 3 n_law_tolls__other) (pa_cons (pvl 2 n_law_tolls__one) pa_nil))) (pvl 5 n_law_tolls__back) rfl)))) (pss_one (ps_ret (pvl 1 n_law_tolls__tolls))))),?_⟩
   rw [show L2.start ["roads","tolls","one","other","there","back"] [V.ref l]=[some (V.ref l),none,none,none,none,none] from rfl]
   walk_at "rd"
   intro d hd
   have s0:=Same.new (.dT []) hd
   have hlen:ps.length=rs.length:=Paired.length ro
   have glen:=g.len
   have m24:=g.m24
   refine ⟨⟨_,SqL.of (s0 _ _ hl)⟩,?_⟩
   refine for_listN (K:=K) (xs:=ps.map V.ref) (fun i σ H2=>Same H H2∧TollsOf H2 d rs i∧∃ v1 v2 v3 v4,σ=[some (V.ref l),some (V.ref d),v1,v2,v3,v4]) ⟨s0,⟨[],upd_same,⟨by simp,fun p hp=>nomatch hp⟩,fun a b=>⟨fun i x hi=>absurd hi (Nat.not_lt_zero _),fun _=>rfl⟩⟩,_,_,_,_,rfl⟩ (fun i σ H2 _ z=>SqL.of (z.1 _ _ hl)) ?_ ?_
   · rintro i x σ H2 N hN hx ⟨s2,⟨kvs,hk,⟨hkl,hks⟩,hkv⟩,v1,v2,v3,v4,rfl⟩
     obtain ⟨q,r,rfl,h1,h2,h3⟩:=ro.get hx
     have hil:i < rs.length:=(List.getElem?_eq_some_iff.mp h2).1
     have ok:=g.ok r (List.mem_of_getElem? h2)
     walk_at "rd"
     refine ⟨_,SqT.of (s2 _ _ h3),rfl,_,_,rfl,_,_,rfl,_,_,rfl,_,_,rfl,rfl,?_⟩
     refine ⟨smallE (by simp),fun p1 n1=>⟨_,DPut.t (k:=[.inl r.a,.inl r.b]) (Same.new (.tup [V.int r.a,V.int r.b]) n1 _ _ hk) upd_same (small (by omega)),smallE (by simp),fun p2 n2=>?_⟩⟩
     have l1:=length_putK kvs [Sum.inl r.a,Sum.inl r.b] (V.int r.t)
     have np2:d≠p2:=fun z=>by rw [← z,upd_same] at n2; cases n2
     refine ⟨_,DPut.t (k:=[.inl r.b,.inl r.a]) (by rw [upd_ne np2]; exact upd_same) upd_same (small (by omega)),hN _ _ ⟨?_,⟨_,upd_same,?_,?_⟩,_,_,_,_,rfl⟩⟩
     · intro b o hb
       have nd:b≠d:=ne_of_none hb hd
       have b2:=s2 _ _ hb
       have nb1:b≠p1:=ne_of_none b2 n1
       have b3:upd (upd H2 p1 (.tup [V.int r.a,V.int r.b])) d (.dT (putK kvs [Sum.inl r.a,Sum.inl r.b] (V.int r.t))) b=some o:=by rw [upd_ne nd,upd_ne nb1]; exact b2
       rw [upd_ne nd,upd_ne (ne_of_none b3 n2)]
       exact b3
     · have l2:=length_putK (putK kvs [Sum.inl r.a,Sum.inl r.b] (V.int r.t)) [Sum.inl r.b,Sum.inl r.a] (V.int r.u)
       refine ⟨by omega,fun p hp=>?_⟩
       rcases mem_putK hp with e | ⟨q,hq,e⟩
       · exact ⟨_,_,e⟩
       rcases mem_putK hq with e' | ⟨q',hq',e'⟩
       · exact ⟨_,_,e.trans e'⟩
       · obtain ⟨a',b',e2⟩:=hks q' hq'
         exact ⟨a',b',e.trans (e'.trans e2)⟩
     · intro a' b'
       have v2:valV (putK (putK kvs [Sum.inl r.a,Sum.inl r.b] (V.int r.t)) [Sum.inl r.b,Sum.inl r.a] (V.int r.u)) [Sum.inl a',Sum.inl b']=if a'=r.b∧b'=r.a then some (V.int r.u) else if a'=r.a∧b'=r.b then some (V.int r.t) else valV kvs [Sum.inl a',Sum.inl b']:=by
         rw [valV_put,valV_put]
         simp
       rw [v2]
       have away:¬ Joins r a' b'→(if a'=r.b∧b'=r.a then some (V.int r.u) else if a'=r.a∧b'=r.b then some (V.int r.t) else valV kvs [Sum.inl a',Sum.inl b'])=valV kvs [Sum.inl a',Sum.inl b']:=fun z=>by
         rw [if_neg (fun w=>z (.inr ⟨w.1.symm,w.2.symm⟩)),if_neg (fun w=>z (.inl ⟨w.1.symm,w.2.symm⟩))]
       constructor
       · intro j x hj hy jx
         by_cases e:j=i
         · subst e
           rw [h2] at hy
           cases hy
           rcases jx with ⟨w1,w2⟩ | ⟨w1,w2⟩
           · subst w1 w2
             rw [if_neg (fun z=>ok.ne z.1),if_pos ⟨rfl,rfl⟩,toll_fwd ok.ne]
             rfl
           · subst w1 w2
             rw [if_pos ⟨rfl,rfl⟩,toll_bwd ok.ne]
             rfl
         · rw [away fun w=>e (pair_once g hy h2 jx w)]
           exact (hkv a' b').1 j x (by omega) hy jx
       · intro z
         rw [away (z i r (by omega) h2)]
         exact (hkv a' b').2 fun j x hj hx=>z j x (by omega) hx
   · rintro σ H2 ⟨s2,⟨kvs,hk,⟨hkl,hks⟩,hkv⟩,v1,v2,v3,v4,rfl⟩
     rw [List.length_map,hlen] at hkv
     walk_at "rd"
     refine k d H2 hd s2 ⟨⟨kvs,hk,fun a b=>?_⟩,⟨kvs,hk,by rw [List.length_map,hlen] at hkl; exact hkl,hks⟩⟩
     by_cases z:∃ (i:Nat) (x:Road),rs[i]?=some x∧Joins x a b
     · obtain ⟨i,x,hi,j⟩:=z
       rw [(hkv a b).1 i x (List.getElem?_eq_some_iff.mp hi).1 hi j,tollOf_at g hi j]
     · rw [(hkv a b).2 fun i x _ hi j=>z ⟨i,x,hi,j⟩,tollOf_no]
       · rfl
       · rintro ⟨x,hx,j⟩
         obtain ⟨i,hi⟩:=List.getElem?_of_mem hx
         exact z ⟨i,x,hi,j⟩
/-! #### _law_drawn -/
theorem drawn_ok (c i:Int) (i0:0≤i) (i1:i≤1000):CMul 7919 i∧CMul (c % 998244353 + 7919 * i + 11) 48271∧CMul ((c % 998244353 + 7919 * i + 11) * 48271 % 2147483647) ((c % 998244353 + 7919 * i + 11) * 48271 % 2147483647)∧CMul (((c % 998244353 + 7919 * i + 11) * 48271 % 2147483647) * ((c % 998244353 + 7919 * i + 11) * 48271 % 2147483647) % 2147483629) (((c % 998244353 + 7919 * i + 11) * 48271 % 2147483647) * ((c % 998244353 + 7919 * i + 11) * 48271 % 2147483647) % 2147483629)∧CMul ((((c % 998244353 + 7919 * i + 11) * 48271 % 2147483647) * ((c % 998244353 + 7919 * i + 11) * 48271 % 2147483647) % 2147483629) * (((c % 998244353 + 7919 * i + 11) * 48271 % 2147483647) * ((c % 998244353 + 7919 * i + 11) * 48271 % 2147483647) % 2147483629)) (((c % 998244353 + 7919 * i + 11) * 48271 % 2147483647) + 12345678901)∧CDiv ((((c % 998244353 + 7919 * i + 11) * 48271 % 2147483647) * ((c % 998244353 + 7919 * i + 11) * 48271 % 2147483647) % 2147483629) * (((c % 998244353 + 7919 * i + 11) * 48271 % 2147483647) * ((c % 998244353 + 7919 * i + 11) * 48271 % 2147483647) % 2147483629) * (((c % 998244353 + 7919 * i + 11) * 48271 % 2147483647) + 12345678901)) 7∧0≤(((c % 998244353 + 7919 * i + 11) * 48271 % 2147483647) * ((c % 998244353 + 7919 * i + 11) * 48271 % 2147483647) % 2147483629) * (((c % 998244353 + 7919 * i + 11) * 48271 % 2147483647) * ((c % 998244353 + 7919 * i + 11) * 48271 % 2147483647) % 2147483629) * (((c % 998244353 + 7919 * i + 11) * 48271 % 2147483647) + 12345678901) / 7:=by
 have h3:=Int.emod_nonneg ((c % 998244353 + 7919 * i + 11) * 48271) (show (2147483647:Int)≠0 by decide)
 have h4:=Int.emod_lt_of_pos ((c % 998244353 + 7919 * i + 11) * 48271) (show (0:Int) < 2147483647 by decide)
 generalize (c % 998244353 + 7919 * i + 11) * 48271 % 2147483647=n at h3 h4 ⊢
 have h5:=Int.emod_nonneg (n * n) (show (2147483629:Int)≠0 by decide)
 have h6:=Int.emod_lt_of_pos (n * n) (show (0:Int) < 2147483629 by decide)
 generalize n * n % 2147483629=f at h5 h6 ⊢
 refine ⟨.inl ⟨by decide,by decide⟩,.inr ⟨by decide,by decide⟩,.inl ⟨by omega,by omega⟩,.inl ⟨by omega,by omega⟩,.inr ⟨by omega,by omega⟩,⟨by decide,by decide⟩,?_⟩
 exact Int.ediv_nonneg (Int.mul_nonneg (Int.mul_nonneg h5 h5) (by omega)) (by decide)
def sp_law_drawn (T:Txt K mg):Sp:=fun vs H Q _=>∃ (a:Addr) (ns:List Int) (k:Int),vs=[.ref a,.int k]∧SqL K H a (ns.map V.int)∧0≤k∧k≤1000∧∀ v,0≤v→Q (.int v) H
abbrev s_law_drawn:Stmt:=top 40
theorem sc_law_drawn:FnScope ["script","k","cell","near","far"] ["script","k"] (defScope s_law_drawn):=FnScope.of (by kernel_rfl)
theorem n_law_drawn__script:NmL (defScope s_law_drawn) "script":=.of (by kernel_rfl)
theorem n_law_drawn__k:NmL (defScope s_law_drawn) "k":=.of (by kernel_rfl)
theorem n_law_drawn__cell:NmL (defScope s_law_drawn) "cell":=.of (by kernel_rfl)
theorem n_law_drawn__near:NmL (defScope s_law_drawn) "near":=.of (by kernel_rfl)
theorem n_law_drawn__far:NmL (defScope s_law_drawn) "far":=.of (by kernel_rfl)
theorem n_law_drawn__len:NmG (defScope s_law_drawn) "len":=.of (by kernel_rfl)

theorem ok_law_drawn (T:Txt K mg) (hq:Quiet (CXe P w)) {f:Addr} {fd:FuncData} (D:Df K mg "_law_drawn" s_law_drawn ["script","k"] f fd):FnOk P w K mg base (CXe P w) 1 f fd ["script","k"] (sp_law_drawn T):=by
 refine D.F.okC sc_law_drawn (fun vs H Q E h=>?_) (fun cdv A outer s H vs Q E hr h=>?_)
 · obtain ⟨a,ns,i,rfl,_⟩:=h
   rfl
 · obtain ⟨a,ns,i,rfl,ha,i0,i1,k⟩:=h
   refine ⟨_,(pss_cons (ps_set (i:=2) sc_law_drawn.nd rfl (Or.inl n_law_drawn__cell.l) pe_int) (pss_cons (ps_if (pt_cmpR op_lt (pvl 1 n_law_drawn__k) (pe_callB call_len_seq n_law_drawn__len.g T.len pb_len (pa_cons (pvl 0 n_law_drawn__script) pa_nil) (hn:=n_law_drawn__len.n) (hdb:=n_law_drawn__len.d)) (nomark _)) (pss_one (ps_set (i:=2) sc_law_drawn.nd rfl (Or.inl n_law_drawn__cell.l) (pe_op op_mod (pe_ix ix_list (pvl 0 n_law_drawn__script) (pvl 1 n_law_drawn__k) (fun _ _=>rfl)) (pe_op op_pow pe_int pe_int)))) pss_nil) (pss_cons (ps_if (PW.pt (pw_and (pt_cmpR op_gt (pe_callB call_len_seq n_law_drawn__len.g T.len pb_len (pa_cons (pvl 0 n_law_drawn__script) pa_nil) (hn:=n_law_drawn__len.n) (hdb:=n_law_drawn__len.d)) pe_int (nomark _)) (pw_and1 (pt_cmpR op_eq (pe_op op_mod (pe_ix ix_list (pvl 0 n_law_drawn__script) pe_int (fun _ _=>rfl)) pe_int) pe_int (nomark _))))) (pss_cons (ps_set (i:=3) sc_law_drawn.nd rfl (Or.inl n_law_drawn__near.l) (pe_op op_mod (pe_op op_mul (pe_op op_add (pe_op op_add (pe_op op_mod (pvl 2 n_law_drawn__cell) pe_int) (pe_op op_mul pe_int (pvl 1 n_law_drawn__k))) pe_int) pe_int) pe_int)) (pss_cons (ps_set (i:=4) sc_law_drawn.nd rfl (Or.inl n_law_drawn__far.l) (pe_op op_mod (pe_op op_mul (pvl 3 n_law_drawn__near) (pvl 3 n_law_drawn__near)) pe_int)) (pss_one (ps_set (i:=2) sc_law_drawn.nd rfl (Or.inl n_law_drawn__cell.l) (pe_op op_fdiv (pe_op op_mul (pe_op op_mul (pvl 4 n_law_drawn__far) (pvl 4 n_law_drawn__far)) (pe_op op_add (pvl 3 n_law_drawn__near) pe_int)) pe_int))))) pss_nil) (pss_one (ps_ret (pvl 2 n_law_drawn__cell)))))),?_⟩
   rw [show L2.start ["script","k","cell","near","far"] [V.ref a,V.int i]=[some (V.ref a),some (V.int i),none,none,none] from rfl]
   walk_at "rd"
   refine ⟨_,.inl ha,?_⟩
   rw [List.length_map]
   by_cases z:i < (ns.length:Int)
   · rw [if_pos z]
     refine ixS ha (atG i0 z) ⟨⟨by decide,by decide,by decide⟩,_,rfl,p60,?_⟩
     have c0:=Int.emod_nonneg (ns.getD i.toNat 0) (Int.ne_of_gt p60)
     generalize ns.getD i.toNat 0 % 10 ^ Int.toNat 60=c at c0 ⊢
     obtain ⟨h1,h2,h3,h4,h5,h6,h7⟩:=drawn_ok c i i0 i1
     refine ⟨_,.inl ha,?_⟩
     rw [List.length_map,if_pos (by omega)]
     refine ixS ha (atG (by decide) (by omega)) ⟨_,rfl,by decide,?_⟩
     by_cases y:ns.getD (0:Int).toNat 0 % 2=1
     · rw [if_pos y]
       exact ⟨by decide,h1,h2,by decide,h3,by decide,h4,h5,h6,k _ h7⟩
     · rw [if_neg y]
       exact k _ c0
   · rw [if_neg z]
     obtain ⟨h1,h2,h3,h4,h5,h6,h7⟩:=drawn_ok 0 i i0 i1
     refine ⟨_,.inl ha,?_⟩
     rw [List.length_map]
     by_cases x:0 < (ns.length:Int)
     · rw [if_pos x]
       refine ixS ha (atG (by decide) x) ⟨_,rfl,by decide,?_⟩
       by_cases y:ns.getD (0:Int).toNat 0 % 2=1
       · rw [if_pos y]
         exact ⟨by decide,h1,h2,by decide,h3,by decide,h4,h5,h6,k _ h7⟩
       · rw [if_neg y]
         exact k 0 (by decide)
     · rw [if_neg x]
       exact k 0 (by decide)
/-! #### _law_bound -/
def sp_law_bound (T:Txt K mg):Sp:=fun vs H Q _=>∃ (a:Addr) (ns:List Int),vs=[.ref a]∧SqL K H a (ns.map V.int)∧∀ b H',1≤b→Same H H'→Q (.int b) H'
abbrev s_law_bound:Stmt:=top 47
theorem sc_law_bound:FnScope ["script","head"] ["script"] (defScope s_law_bound):=FnScope.of (by kernel_rfl)
theorem n_law_bound__script:NmL (defScope s_law_bound) "script":=.of (by kernel_rfl)
theorem n_law_bound__head:NmL (defScope s_law_bound) "head":=.of (by kernel_rfl)
theorem n_law_bound__law_drawn:NmG (defScope s_law_bound) "_law_drawn":=.of (by kernel_rfl)

theorem ok_law_bound (T:Txt K mg) (hq:Quiet (CXe P w)) {f:Addr} {fd:FuncData} (D:Df K mg "_law_bound" s_law_bound ["script"] f fd) {f_law_drawn:Addr} {fd_law_drawn:FuncData} (D_law_drawn:Df K mg "_law_drawn" s_law_drawn ["script","k"] f_law_drawn fd_law_drawn) (G_law_drawn:FnOk P w K mg base (CXe P w) 1 f_law_drawn fd_law_drawn ["script","k"] (sp_law_drawn T)):FnOk P w K mg base (CXe P w) 2 f fd ["script"] (sp_law_bound T):=by
 refine D.F.okC sc_law_bound (fun vs H Q E h=>?_) (fun cdv A outer s H vs Q E hr h=>?_)
 · obtain ⟨a,ns,rfl,_⟩:=h
   rfl
 · obtain ⟨a,ns,rfl,ha,k⟩:=h
   refine ⟨_,(pss_cons (ps_set (i:=1) sc_law_bound.nd rfl (Or.inl n_law_bound__head.l) (pe_op op_fdiv (pe_call G_law_drawn (hr.mono (by decide)) n_law_bound__law_drawn.g D_law_drawn.m D_law_drawn.F.kp D_law_drawn.b .nil (passQ hq) (pa_cons (pvl 0 n_law_bound__script) (pa_cons pe_int pa_nil)) (hdb:=n_law_bound__law_drawn.d)) pe_int)) (pss_one (ps_ret (pe_ix ix_list (pe_lst (pa_cons pe_int (pa_cons pe_int (pa_cons pe_int (pa_cons (pe_op op_pow pe_int pe_int) pa_nil))))) (pe_op op_mod (pvl 1 n_law_bound__head) pe_int) (fun _ _=>rfl))))),?_⟩
   rw [show L2.start ["script","head"] [V.ref a]=[some (V.ref a),none] from rfl]
   walk_at "rd"
   refine ⟨a,ns,0,rfl,ha,by decide,by decide,fun c c0=>⟨c,rfl,⟨by decide,by decide⟩,⟨by decide,by decide,by decide⟩,smallE (by simp),fun q nq=>⟨by decide,?_⟩⟩⟩
   have h1:=Int.emod_nonneg (c / 1200) (show (4:Int)≠0 by decide)
   have h2:=Int.emod_lt_of_pos (c / 1200) (show (0:Int) < 4 by decide)
   generalize c / 1200 % 4=j at h1 h2 ⊢
   rcases (show j=0∨j=1∨j=2∨j=3 by omega) with z | z | z | z
   · rw [z]; exact ixL upd_same rfl (k _ _ (by decide) (Same.new _ nq))
   · rw [z]; exact ixL upd_same rfl (k _ _ (by decide) (Same.new _ nq))
   · rw [z]; exact ixL upd_same rfl (k _ _ (by decide) (Same.new _ nq))
   · rw [z]; exact ixL upd_same rfl (k _ _ p60 (Same.new _ nq))
/-! #### _law_down -/
def sp_law_down (T:Txt K mg):Sp:=fun vs H Q _=>∃ (d:Addr) (rs:List Road) (m r:Int),vs=[.ref d,.int m,.int r]∧TollsAt H d rs∧Good m rs∧(0≤r∧r < m) ∧
 ∃ par dep,Rooted m rs r par dep∧∀ lo qs t H',H lo=none→Same H H'→H' lo=some (.lst (qs.map V.ref))→PrsAt H' r par qs (r :: t)→Order m r par t→Q (.ref lo) H'
abbrev s_law_down:Stmt:=top 45
theorem sc_law_down:FnScope ["tolls","many","r","order","at","place","above","kid"] ["tolls","many","r"] (defScope s_law_down):=FnScope.of (by kernel_rfl)
theorem n_law_down__tolls:NmL (defScope s_law_down) "tolls":=.of (by kernel_rfl)
theorem n_law_down__many:NmL (defScope s_law_down) "many":=.of (by kernel_rfl)
theorem n_law_down__r:NmL (defScope s_law_down) "r":=.of (by kernel_rfl)
theorem n_law_down__order:NmL (defScope s_law_down) "order":=.of (by kernel_rfl)
theorem n_law_down__at:NmL (defScope s_law_down) "at":=.of (by kernel_rfl)
theorem n_law_down__place:NmL (defScope s_law_down) "place":=.of (by kernel_rfl)
theorem n_law_down__above:NmL (defScope s_law_down) "above":=.of (by kernel_rfl)
theorem n_law_down__kid:NmL (defScope s_law_down) "kid":=.of (by kernel_rfl)
theorem n_law_down__len:NmG (defScope s_law_down) "len":=.of (by kernel_rfl)
theorem n_law_down__range:NmG (defScope s_law_down) "range":=.of (by kernel_rfl)

theorem ok_law_down (T:Txt K mg) (hq:Quiet (CXe P w)) {f:Addr} {fd:FuncData} (D:Df K mg "_law_down" s_law_down ["tolls","many","r"] f fd):FnOk P w K mg base (CXe P w) 1 f fd ["tolls","many","r"] (sp_law_down T):=by
 refine D.F.okC sc_law_down (fun vs H Q E h=>?_) (fun cdv A outer s H vs Q E hr h=>?_)
 · obtain ⟨d,rs,m,r,rfl,_⟩:=h
   rfl
 · obtain ⟨d,rs,m,r,rfl,ta,g,rr,par,dep,R,k⟩:=h
   have hu:=hu_of hr
   have m24:=g.m24
   refine ⟨_,(pss_cons (ps_set (i:=3) sc_law_down.nd rfl (Or.inl n_law_down__order.l) (pe_lst (pa_cons (pe_tup (pa_cons (pvl 2 n_law_down__r) (pa_cons pe_non pa_nil))) pa_nil))) (pss_cons (ps_set (i:=4) sc_law_down.nd rfl (Or.inl n_law_down__at.l) pe_int) (pss_cons (ps_while PassesOwn.never (pt_cmpR op_lt (pvl 4 n_law_down__at) (pe_callB call_len_seq n_law_down__len.g T.len pb_len (pa_cons (pvl 3 n_law_down__order) pa_nil) (hn:=n_law_down__len.n) (hdb:=n_law_down__len.d)) (nomark _)) (pss_cons (ps_asg (pe_ix ix_list (pvl 3 n_law_down__order) (pvl 4 n_law_down__at) (fun _ _=>rfl)) (pg_tup (n:=2) rfl (pgs_cons (pg_name (i:=5) sc_law_down.nd rfl (Or.inl n_law_down__place.l)) (pgs_cons (pg_name (i:=6) sc_law_down.nd rfl (Or.inl n_law_down__above.l)) pgs_nil)))) (pss_cons (ps_for PassesOwn.never rfl (pi_range1 n_law_down__range.g T.range (pa_cons (pvl 1 n_law_down__many) pa_nil)) (pg_name (i:=7) sc_law_down.nd rfl (Or.inl n_law_down__kid.l)) (pss_one (ps_if (PW.pt (pw_and (pt_cmpR op_ne (pvl 7 n_law_down__kid) (pvl 6 n_law_down__above) (nomark _)) (pw_and1 (pt_cmp (pc_din hu (pe_tup (pa_cons (pvl 5 n_law_down__place) (pa_cons (pvl 7 n_law_down__kid) pa_nil))) (pvl 0 n_law_down__tolls)))))) (pss_one (ps_expr (pe_bm PySem.F.plainAttrs_list PySem.F.slot_list_append PySem.F.type_list_append mt_append (pvl 3 n_law_down__order) (pa_cons (pe_tup (pa_cons (pvl 7 n_law_down__kid) (pa_cons (pvl 5 n_law_down__place) pa_nil))) pa_nil)))) pss_nil))) (pss_one (ps_set (i:=4) sc_law_down.nd rfl (Or.inl n_law_down__at.l) (pe_op op_add (pvl 4 n_law_down__at) pe_int)))))) (pss_one (ps_ret (pvl 3 n_law_down__order)))))),?_⟩
   rw [show L2.start ["tolls","many","r","order","at","place","above","kid"] [V.ref d,V.int m,V.int r]=[some (V.ref d),some (V.int m),some (V.int r),none,none,none,none,none] from rfl]
   walk_at "rd"
   refine ⟨smallE (by simp),fun q0 n0=>⟨smallE (by simp),fun lo nlo=>?_⟩⟩
   have s1:=Same.new (.tup [V.int r,V.non]) n0
   have nl0:=s1.free nlo
   have s2:=s1.trans (Same.new (.lst [V.ref q0]) nlo)
   have nql:q0≠lo:=fun z=>by rw [← z,upd_same] at nlo; cases nlo
   have e2:upd (upd H q0 (.tup [V.int r,V.non])) lo (.lst [V.ref q0]) lo=some (.lst [V.ref q0]):=upd_same
   have f2:upd (upd H q0 (.tup [V.int r,V.non])) lo (.lst [V.ref q0]) q0=some (.tup (vPr r par r)):=by
     rw [upd_ne nql,upd_same]
     unfold vPr Pb.front
     rw [if_pos rfl]
   generalize upd (upd H q0 (.tup [V.int r,V.non])) lo (.lst [V.ref q0])=H2 at s2 e2 f2 ⊢
   have lim:∀ {t:List Int} {ws:List Int},AInv m rs r par t ws→(r :: t).length≤m.toNat:=fun {t ws} J=>by
     have:=nodup_len (m:=m) (by omega) (List.nodup_cons.mpr ⟨J.nr,J.nd⟩) fun v hv=>by
       rcases List.mem_cons.mp hv with e | e
       · rw [e]; exact rr
       · exact J.rng v e
     omega
   refine while_n (fun n σ H4=>∃ (t:List Int) (qs:List Addr) (k:Nat) (v5 v6 v7:Option V),n=m.toNat - k∧k≤(r :: t).length∧σ=[some (.ref d),some (.int m),some (.int r),some (.ref lo),some (.int (k:Nat)),v5,v6,v7]∧Same H H4∧H4 lo=some (.lst (qs.map V.ref))∧PrsAt H4 r par qs (r :: t)∧Bfs m rs r par t k) m.toNat ⟨[],[q0],0,_,_,_,rfl,Nat.zero_le _,rfl,s2,e2,.cons f2 .nil,Bfs.start⟩ ?_
   rintro n σ H4 NW hN hN2 ⟨t,qs,kk,v5,v6,v7,rfl,kle,rfl,s4,ho,pa,S⟩
   have tl:=lim S.J
   have ql:qs.length=(r :: t).length:=Paired.length pa
   walk_at "rd"
   refine ⟨_,.inl (SqL.of ho),?_⟩
   rw [List.length_map,ql]
   by_cases c:kk=(r :: t).length
   · rw [if_neg (by omega)]
     exact k lo qs t H4 nl0 s4 ho pa (S.done R (by omega))
   · rw [if_pos (by omega)]
     have klt:kk < (r :: t).length:=by omega
     obtain ⟨p,hp⟩:∃ p,(r :: t)[kk]?=some p:=⟨_,List.getElem?_eq_getElem klt⟩
     have S':=S.step g R rr.1 rr.2 hp
     have tl':=lim S'.J
     have pr:0≤p∧p < m:=by
       rcases List.mem_cons.mp (List.mem_of_getElem? hp) with e | e
       · rw [e]; exact rr
       · exact S.J.rng p e
     refine ⟨NW,fun σ' H' z=>?_,?_⟩
     · obtain ⟨m',lt,t',qs',k',a5,a6,a7,e1,e2,e3⟩:=hN2 _ _ z
       exact ⟨m',lt,t',qs',k',e1,e2,a5,a6,a7,e3⟩
     obtain ⟨qx,hqx⟩:∃ qx,qs[kk]?=some qx:=⟨_,List.getElem?_eq_getElem (by omega)⟩
     obtain ⟨qp,pv,e1,e2,e3,e4⟩:=pa.get (i:=kk) (x:=.ref qx) (by rw [List.getElem?_map,hqx]; rfl)
     injection e1 with e1
     subst e1
     rw [hp] at e3
     cases e3
     refine ixL ho (atI_nat (by rw [List.getElem?_map,hqx]; rfl)) ⟨qx,rfl,_,SqT.of e4,rfl,_,_,rfl,_,_,rfl,rfl,by omega,by omega,?_⟩
     have mk:∀ v,v∈kidsOf m rs (Pb.front r par p) p→(0≤v∧v < m)∧v≠r∧par v=p:=fun v=>(mem_kids g R pr.1 pr.2).mp
     have inK:∀ i:Nat,i < m.toNat→(tollOf rs p (i:Int)).isSome=true→V.int (i:Int)≠Pb.front r par p→(i:Int)∈kidsOf m rs (Pb.front r par p) p:=fun i hi h1 h2=>by
       rw [← kidsTo_all]
       unfold kidsTo
       exact List.mem_filter.mpr ⟨List.mem_filter.mpr ⟨mem_below.mpr ⟨by omega,by omega⟩,h1⟩,decide_eq_true h2⟩
     have ktl:∀ i:Nat,i≤m.toNat→(kidsTo rs (Pb.front r par p) p i).length≤24:=fun i hi=>by
       unfold kidsTo
       refine Nat.le_trans (List.length_filter_le _ _) (Nat.le_trans (List.length_filter_le _ _) ?_)
       rw [below_length]
       omega
     have fvs:∀ i:Int,scal (.int i) (Pb.front r par p)=true:=fun i=>by
       unfold Pb.front
       by_cases z:p=r
       · rw [if_pos z]; rfl
       · rw [if_neg z]; rfl
     rw [← kidsTo_all] at S' tl'
     refine for_rangeN (fun i σ H5=>Same H H5∧∃ (qs:List Addr) (v7:Option V),H5 lo=some (.lst (qs.map V.ref))∧PrsAt H5 r par qs (r :: (t ++ kidsTo rs (Pb.front r par p) p i))∧σ=[some (.ref d),some (.int m),some (.int r),some (.ref lo),some (.int (kk:Nat)),some (.int p),some (Pb.front r par p),v7]) ⟨s4,qs,_,ho,by rw [show kidsTo rs (Pb.front r par p) p 0=[] from rfl,List.append_nil]; exact pa,rfl⟩ ?_ ?_
     · rintro i σ H5 N hN hi ⟨s5,qs,v7,ho,pa,rfl⟩
       rw [Int.zero_add]
       have kl:=ktl i (by omega)
       have ql:qs.length=(r :: (t ++ kidsTo rs (Pb.front r par p) p i)).length:=Paired.length pa
       rw [List.length_cons,List.length_append] at ql
       rw [List.length_cons] at tl
       walk_at "rd"
       refine ⟨fvs _,?_⟩
       by_cases c1:V.int (i:Int)=Pb.front r par p
       · rw [if_neg (fun z=>z c1)]
         exact hN _ _ ⟨s5,qs,_,ho,by rw [kidsTo_neg (fun _ z=>z c1)]; exact pa,rfl⟩
       · rw [if_pos c1]
         refine ⟨smallE (by simp),fun q nq=>?_⟩
         have s6:=Same.new (.tup [V.int p,V.int (i:Int)]) nq
         obtain ⟨kvs,hkv,hv⟩:=(ta.same s5).ex
         have hg:=DGet.t (k:=[.inl p,.inl (i:Int)]) (s6 _ _ hkv) upd_same
         rw [hv] at hg
         refine ⟨_,hg,?_⟩
         by_cases c2:(tollOf rs p (i:Int)).isSome=true
         · rw [if_pos (by rw [Option.isSome_map]; exact c2)]
           obtain ⟨_,kr,kp⟩:=mk _ (inK i hi c2 c1)
           refine ⟨tyL (s6 _ _ ho),smallE (by simp),fun q' nq'=>?_⟩
           have s7:=s6.trans (Same.new (.tup [V.int (i:Int),V.int p]) nq')
           have ho7:=s7 _ _ ho
           have nqo:q'≠lo:=fun z=>by rw [z,s6 _ _ ho] at nq'; cases nq'
           refine appR ho7 (small (by rw [List.length_map]; omega)) (hN _ _ ⟨(s5.trans s7).put nl0 _,qs ++ [q'],_,by rw [upd_same,List.map_append]; rfl,?_,rfl⟩)
           rw [kidsTo_pos c2 c1,← List.append_assoc,← List.cons_append]
           refine PrsAt.snoc ?_ (Paired.imp' (fun a b h=>by rw [upd_ne (ne_of (s7 _ _ h) ho7 (by intro z; cases z))]; exact s7 _ _ h) pa)
           rw [upd_ne nqo,upd_same]
           unfold vPr Pb.front
           rw [if_neg kr,kp]
         · rw [if_neg (by rw [Option.isSome_map]; exact c2)]
           exact hN _ _ ⟨s5.trans s6,qs,_,s6 _ _ ho,by rw [kidsTo_neg (fun z=>absurd z c2)]; exact PrsAt.same s6 pa,rfl⟩
     · rintro σ H5 ⟨s5,qs,v7,ho,pa,rfl⟩
       walk_at "rd"
       exact hN (m.toNat - (kk + 1)) _ _ (by omega) ⟨_,qs,kk + 1,_,_,_,rfl,by rw [List.length_cons,List.length_append]; rw [List.length_cons] at klt; omega,rfl,s5,ho,pa,S'⟩
/-! #### _law_standings -/
def sp_law_standings (T:Txt K mg):Sp:=fun vs H Q _=>∃ (dt a b:Addr) (c d:Bool) (rs:List Road) (xs ys:List Int) (m r:Int),vs=[.ref dt,.int m,.ref a,.ref b,.int r]∧TollsAt H dt rs∧Good m rs∧SqX K c H a (xs.map V.int)∧(xs.length:Int)=m∧SqX K d H b (ys.map V.int)∧(ys.length:Int)=m∧(0≤r∧r < m) ∧
 ∃ par dep,Rooted m rs r par dep∧∀ l H',H l=none→Same H H'→H' l=some (.lst ((gatL m rs r par dep (fun v=>(overL m xs ys).getD v.toNat 0) (hnd rs par)).map V.int))→Q (.ref l) H'
abbrev s_law_standings:Stmt:=top 46
theorem sc_law_standings:FnScope ["tolls","many","laying","wish","r","found","place","above"] ["tolls","many","laying","wish","r"] (defScope s_law_standings):=FnScope.of (by kernel_rfl)
theorem n_law_standings__tolls:NmL (defScope s_law_standings) "tolls":=.of (by kernel_rfl)
theorem n_law_standings__many:NmL (defScope s_law_standings) "many":=.of (by kernel_rfl)
theorem n_law_standings__laying:NmC (defScope s_law_standings) "laying":=.of (by kernel_rfl)
theorem n_law_standings__wish:NmC (defScope s_law_standings) "wish":=.of (by kernel_rfl)
theorem n_law_standings__r:NmL (defScope s_law_standings) "r":=.of (by kernel_rfl)
theorem n_law_standings__found:NmL (defScope s_law_standings) "found":=.of (by kernel_rfl)
theorem n_law_standings__place:NmL (defScope s_law_standings) "place":=.of (by kernel_rfl)
theorem n_law_standings__above:NmL (defScope s_law_standings) "above":=.of (by kernel_rfl)
theorem n_law_standings__range:NmG (defScope s_law_standings) "range":=.of (by kernel_rfl)
theorem n_law_standings__reversed:NmG (defScope s_law_standings) "reversed":=.of (by kernel_rfl)
theorem n_law_standings__law_down:NmG (defScope s_law_standings) "_law_down":=.of (by kernel_rfl)

theorem ok_law_standings (T:Txt K mg) (hq:Quiet (CXe P w)) {f:Addr} {fd:FuncData} (D:Df K mg "_law_standings" s_law_standings ["tolls","many","laying","wish","r"] f fd) {f_law_down:Addr} {fd_law_down:FuncData} (D_law_down:Df K mg "_law_down" s_law_down ["tolls","many","r"] f_law_down fd_law_down) (G_law_down:FnOk P w K mg base (CXe P w) 1 f_law_down fd_law_down ["tolls","many","r"] (sp_law_down T)):FnOk P w K mg base (CXe P w) 2 f fd ["tolls","many","laying","wish","r"] (sp_law_standings T):=by
 refine D.F.okC sc_law_standings (fun vs H Q E h=>?_) (fun cdv A outer s H vs Q E hr h=>?_)
 · obtain ⟨dt,a,b,c,d,rs,xs,ys,m,r,rfl,_⟩:=h
   rfl
 · obtain ⟨dt,a,b,c,d,rs,xs,ys,m,r,rfl,ta,g,ha,xl,hb,yl,rr,par,dep,R,k⟩:=h
   have hu:=hu_of hr
   have m1:=g.m1
   have m24:=g.m24
   refine ⟨_,(pss_cons (ps_setComp (i:=5) sc_law_standings.nd rfl n_law_standings__found.l rfl (ct_clos (Nc:=["place","laying","wish"]) 1 [2,3] (by decide +kernel) rfl (by decide +kernel) rfl (by show ∀ (y:Str × NameKind),y∈_→y.2=NameKind.free→(defScope s_law_standings).names.lookup y.1=some NameKind.cell; decide +kernel) rfl (fun _ h=>cell_has h) (fun i hi=>match i,hi with | 0,_=>⟨"laying",2,rfl,rfl,rfl,by decide +kernel⟩ | 1,_=>⟨"wish",3,rfl,rfl,rfl,by decide +kernel⟩ | i + 2,hi=>absurd hi (by show ¬ i + 2 < 2; omega))) (pi_range1 n_law_standings__range.g T.range (pa_cons (pvl 1 n_law_standings__many) pa_nil)) (fun _ _ _ _=>(pg_name (i:=0) (show (["place","laying","wish"]:List Str).Nodup from by decide +kernel) rfl (Or.inl rfl))) (fun _ _ _ _=>pts_nil) (fun _ _ _ _=>(pe_op op_sub (pe_ix (ix_anyK c K rfl) (pv 1) (pv 0) (fun _ _=>rfl)) (pe_ix (ix_anyK d K rfl) (pv 2) (pv 0) (fun _ _=>rfl))))) (pss_cons (ps_for PassesOwn.never rfl (pi_rev n_law_standings__reversed.g T.reversed (pe_call G_law_down (hr.mono (by decide)) n_law_standings__law_down.g D_law_down.m D_law_down.F.kp D_law_down.b .nil (passQ hq) (pa_cons (pvl 0 n_law_standings__tolls) (pa_cons (pvl 1 n_law_standings__many) (pa_cons (pvl 4 n_law_standings__r) pa_nil))) (hdb:=n_law_standings__law_down.d))) (pg_tup (n:=2) rfl (pgs_cons (pg_name (i:=6) sc_law_standings.nd rfl (Or.inl n_law_standings__place.l)) (pgs_cons (pg_name (i:=7) sc_law_standings.nd rfl (Or.inl n_law_standings__above.l)) pgs_nil))) (pss_one (ps_if (PW.pt (pw_and (pt_cmp (pc_notN (pvl 7 n_law_standings__above))) (pw_and1 (pt_cmpR op_ge (pe_ix ix_list (pvl 5 n_law_standings__found) (pvl 6 n_law_standings__place) (fun _ _=>rfl)) pe_int (nomark _))))) (pss_one (ps_asg (pe_op op_add (pe_ix ix_list (pvl 5 n_law_standings__found) (pvl 7 n_law_standings__above) (fun _ _=>rfl)) (pe_op op_fdiv (pe_ix ix_list (pvl 5 n_law_standings__found) (pvl 6 n_law_standings__place) (fun _ _=>rfl)) (pe_dget hu (pvl 0 n_law_standings__tolls) (pe_tup (pa_cons (pvl 6 n_law_standings__place) (pa_cons (pvl 7 n_law_standings__above) pa_nil))) (fun _ _=>rfl)))) (pg_sub (pvl 5 n_law_standings__found) (pvl 7 n_law_standings__above) set_list))) (pss_one (ps_if (pt_cmp (pc_notN (pvl 7 n_law_standings__above))) (pss_one (ps_asg (pe_op op_add (pe_ix ix_list (pvl 5 n_law_standings__found) (pvl 7 n_law_standings__above) (fun _ _=>rfl)) (pe_op op_mul (pe_ix ix_list (pvl 5 n_law_standings__found) (pvl 6 n_law_standings__place) (fun _ _=>rfl)) (pe_dget hu (pvl 0 n_law_standings__tolls) (pe_tup (pa_cons (pvl 7 n_law_standings__above) (pa_cons (pvl 6 n_law_standings__place) pa_nil))) (fun _ _=>rfl)))) (pg_sub (pvl 5 n_law_standings__found) (pvl 7 n_law_standings__above) set_list))) pss_nil))))) (pss_one (ps_ret (pvl 5 n_law_standings__found))))),?_⟩
   rw [show L2.start ["tolls","many","laying","wish","r","found","place","above"] [V.ref dt,V.int m,V.ref a,V.ref b,V.int r]=[some (V.ref dt),some (V.int m),some (V.ref a),some (V.ref b),some (V.int r),none,none,none] from rfl]
   walk_at "rd"
   refine ⟨by omega,by omega,fun lo no=>?_⟩
   refine comp_range (fun i zs σ H3=>Same H H3∧H3 lo=some (.lst zs)∧zs=((List.range i).map fun i=>xs.getD i 0 - ys.getD i 0).map V.int∧∃ v,σ=[v,some (V.ref a),some (V.ref b)]) ⟨Same.new _ no,upd_same,rfl,_,rfl⟩ ?_ ?_
   · rintro i zs σ H3 N hN hi ⟨s3,e3',rfl,v,rfl⟩
     rw [Int.zero_add]
     have i0:(0:Int)≤(i:Int):=by omega
     have ga:=atG (xs:=xs) i0 (by omega)
     have gb:=atG (xs:=ys) i0 (by omega)
     rw [Int.toNat_natCast] at ga gb
     walk_at "rd"
     refine ixX (Same.sqX s3 ha) ga (ixX (Same.sqX s3 hb) gb ⟨_,rfl,_,rfl,e3',small (by simp; omega),hN _ _ _ ⟨s3.put no _,upd_same,?_,_,rfl⟩⟩)
     rw [List.range_succ,List.map_append,List.map_append]
     rfl
   · rintro zs σ H3 ⟨s3,e3',rfl,v,rfl⟩
     have ol:=overL_len (m:=m) (by omega) xs ys
     change H3 lo=some (.lst ((overL m xs ys).map V.int)) at e3'
     refine ⟨dt,rs,m,r,rfl,ta.same s3,g,rr,par,dep,R,fun lq qs t H4 nq s4 eq pa O=>?_⟩
     have nqo:lq≠lo:=fun z=>by rw [z,e3'] at nq; cases nq
     have s34:=s3.trans s4
     have ql:qs.length=(r :: t).length:=Paired.length pa
     refine ⟨lq,rfl,_,SqL.of eq,?_⟩
     refine for_revN (K:=K) (xs:=qs.map V.ref) (fun i σ H5=>Same H H5∧H5 lq=some (.lst (qs.map V.ref))∧PrsAt H5 r par qs (r :: t)∧∃ (cs:List Int) (v6 v7:Option V),H5 lo=some (.lst (cs.map V.int))∧Sofar m rs r par dep (fun v=>(overL m xs ys).getD v.toNat 0) (hnd rs par) (t.drop (t.length - i)) cs∧σ=[some (V.ref dt),some (V.int m),some (V.ref a),some (V.ref b),some (V.int r),some (V.ref lo),v6,v7]) ⟨s34,eq,pa,overL m xs ys,_,_,s4 _ _ e3',by rw [Nat.sub_zero,List.drop_length]; exact Sofar.nil ol,rfl⟩ (fun i σ H5 _ z=>SqL.of z.2.1) ?_ ?_
     · rintro i x σ H5 N hN hx ⟨s5,q5,pa5,cs,v6,v7,c5,so,rfl⟩
       have il:=(List.getElem?_eq_some_iff.mp hx).1
       rw [List.length_reverse,List.length_map,ql,List.length_cons] at il
       rw [List.getElem?_reverse (by rw [List.length_map,ql,List.length_cons]; omega),List.length_map,ql] at hx
       obtain ⟨q,v,rfl,hq,hv,e5⟩:=pa5.get hx
       have hv':(r :: t).reverse[i]?=some v:=by rw [List.getElem?_reverse (by rw [List.length_cons]; omega)]; exact hv
       rw [List.reverse_cons] at hv'
       have cl:=so.len
       walk_at "rd"
       refine ⟨_,SqT.of e5,rfl,_,_,rfl,_,_,rfl,rfl,?_⟩
       walk_at "rd"
       by_cases ci:i < t.length
       · rw [List.getElem?_append_left (by rw [List.length_reverse]; exact ci)] at hv'
         obtain ⟨⟨vr,vn⟩,ev,so'⟩:=O.turn g R so hv'
         have u:=R.up v vr.1 vr.2 vn
         obtain ⟨kk,hk,k0,k1⟩:=toll_up g R vr.1 vr.2 vn
         obtain ⟨kd,hd,d0,d1⟩:=toll_dn g R vr.1 vr.2 vn
         have fv:Pb.front r par v=V.int (par v):=by unfold Pb.front; rw [if_neg vn]
         rw [fv]
         have nn:¬ V.int (par v)=V.non:=by intro z; cases z
         have gv:=atG (xs:=cs) vr.1 (by omega)
         have gu:=atG (xs:=cs) u.1.1 (by omega)
         have get:∀ (x y kx:Int) (q':Addr),tollOf rs x y=some kx→H5 q'=none→DGet (upd H5 q' (.tup [V.int x,V.int y])) dt (V.ref q') (some (V.int kx)):=fun x y kx q' hx nq'=>by
           obtain ⟨kvs,hkv,hv2⟩:=(ta.same s5).ex
           have hg:=DGet.t (k:=[.inl x,.inl y]) (Same.new (.tup [V.int x,V.int y]) nq' _ _ hkv) upd_same
           rw [hv2,hx] at hg
           exact hg
         have fin:∀ (w:Int) (q':Addr) (o:List V),H5 q'=none→w=cs.getD (par v).toNat 0 + hnd rs par v (cs.getD v.toNat 0)→rSetL (V.ref lo) (V.int (par v)) (V.int w) (upd H5 q' (.tup o)) fun H3=>N [some (V.ref dt),some (V.int m),some (V.ref a),some (V.ref b),some (V.int r),some (V.ref lo),some (V.int v),some (V.int (par v))] H3:=fun w q' o nq' hw=>by
           have s6:=Same.new (.tup o) nq'
           refine setR (s6 _ _ c5) u.1.1 (by rw [List.length_map]; omega) (hN _ _ ⟨(s5.trans s6).put no _,?_,?_,gstep par (hnd rs par) cs v,_,_,?_,so',rfl⟩)
           · rw [upd_ne nqo]; exact s6 _ _ q5
           · exact Paired.imp' (fun a b h=>by rw [upd_ne (ne_of (s6 _ _ h) (s6 _ _ c5) (by intro z; cases z))]; exact s6 _ _ h) pa5
           · rw [upd_same,← List.map_set,hw]
             rfl
         rw [if_pos nn]
         refine ixL c5 gv ⟨_,rfl,?_⟩
         by_cases cp:0≤cs.getD v.toNat 0
         · rw [if_pos cp]
           refine ixL c5 gu (ixL c5 gv ⟨smallE (by simp),fun q' nq'=>⟨_,get v (par v) kk q' hk nq',_,rfl,_,rfl,⟨by omega,by omega⟩,_,rfl,fin _ q' _ nq' ?_⟩⟩)
           unfold hnd
           rw [if_pos cp,hk]
           rfl
         · rw [if_neg cp,if_pos nn]
           refine ixL c5 gu (ixL c5 gv ⟨smallE (by simp),fun q' nq'=>⟨_,get (par v) v kd q' hd nq',_,rfl,_,rfl,.inr ⟨by omega,by omega⟩,_,rfl,fin _ q' _ nq' ?_⟩⟩)
           unfold hnd
           rw [if_neg cp,hd]
           rfl
       · have ei:i=t.reverse.length:=by rw [List.length_reverse]; omega
         rw [ei,List.getElem?_append_right (Nat.le_refl _),Nat.sub_self] at hv'
         cases hv'
         have fv:Pb.front r par r=V.non:=by unfold Pb.front; rw [if_pos rfl]
         rw [fv]
         rw [if_neg (fun z=>z rfl),if_neg (fun z=>z rfl)]
         refine hN _ _ ⟨s5,q5,pa5,cs,_,_,c5,?_,rfl⟩
         rw [List.length_reverse] at ei
         rw [show t.length - (i + 1)=t.length - i by omega]
         exact so
     · rintro σ H5 ⟨s5,q5,pa5,cs,v6,v7,c5,so,rfl⟩
       rw [List.length_map,ql,List.length_cons,show t.length - (t.length + 1)=0 by omega,List.drop_zero] at so
       rw [O.done g R so] at c5
       walk_at "rd"
       exact k lo H5 no s5 c5
/-! #### _law_edge -/
def sp_law_edge (T:Txt K mg):Sp:=fun vs H Q _=>∃ (a dt lx ly:Addr) (ns:List Int) (m:Int) (rs:List Road) (xs ys:List Int),vs=[.ref a,.ref dt,.int m,.ref lx,.ref ly]∧SqL K H a (ns.map V.int)∧TollsAt H dt rs∧Good m rs∧H lx=some (.lst (xs.map V.int))∧(xs.length:Int)=m∧(∀ x∈xs,0≤x)∧H ly=some (.lst (ys.map V.int))∧(ys.length:Int)=m ∧
 ∀ (zs:List Int) (H':Hp),(zs.length:Int)=m→(∀ z∈zs,0≤z)→(∀ q o,q≠lx→H q=some o→H' q=some o)→H' lx=some (.lst (zs.map V.int))→Q .non H'
abbrev s_law_edge:Stmt:=top 50
theorem sc_law_edge:FnScope ["script","tolls","many","laying","wish","head","r","due"] ["script","tolls","many","laying","wish"] (defScope s_law_edge):=FnScope.of (by kernel_rfl)
theorem n_law_edge__script:NmL (defScope s_law_edge) "script":=.of (by kernel_rfl)
theorem n_law_edge__tolls:NmL (defScope s_law_edge) "tolls":=.of (by kernel_rfl)
theorem n_law_edge__many:NmL (defScope s_law_edge) "many":=.of (by kernel_rfl)
theorem n_law_edge__laying:NmL (defScope s_law_edge) "laying":=.of (by kernel_rfl)
theorem n_law_edge__wish:NmL (defScope s_law_edge) "wish":=.of (by kernel_rfl)
theorem n_law_edge__head:NmL (defScope s_law_edge) "head":=.of (by kernel_rfl)
theorem n_law_edge__r:NmL (defScope s_law_edge) "r":=.of (by kernel_rfl)
theorem n_law_edge__due:NmL (defScope s_law_edge) "due":=.of (by kernel_rfl)
theorem n_law_edge__law_drawn:NmG (defScope s_law_edge) "_law_drawn":=.of (by kernel_rfl)
theorem n_law_edge__law_standings:NmG (defScope s_law_edge) "_law_standings":=.of (by kernel_rfl)

theorem ok_law_edge (T:Txt K mg) (hq:Quiet (CXe P w)) {f:Addr} {fd:FuncData} (D:Df K mg "_law_edge" s_law_edge ["script","tolls","many","laying","wish"] f fd) {f_law_drawn:Addr} {fd_law_drawn:FuncData} (D_law_drawn:Df K mg "_law_drawn" s_law_drawn ["script","k"] f_law_drawn fd_law_drawn) (G_law_drawn:FnOk P w K mg base (CXe P w) 1 f_law_drawn fd_law_drawn ["script","k"] (sp_law_drawn T)) {f_law_standings:Addr} {fd_law_standings:FuncData} (D_law_standings:Df K mg "_law_standings" s_law_standings ["tolls","many","laying","wish","r"] f_law_standings fd_law_standings) (G_law_standings:FnOk P w K mg base (CXe P w) 2 f_law_standings fd_law_standings ["tolls","many","laying","wish","r"] (sp_law_standings T)):FnOk P w K mg base (CXe P w) 3 f fd ["script","tolls","many","laying","wish"] (sp_law_edge T):=by
 refine D.F.okC sc_law_edge (fun vs H Q E h=>?_) (fun cdv A outer s H vs Q E hr h=>?_)
 · obtain ⟨a,dt,lx,ly,ns,m,rs,xs,ys,rfl,_⟩:=h
   rfl
 · obtain ⟨a,dt,lx,ly,ns,m,rs,xs,ys,rfl,ha,ta,g,hx,xl,x0,hy,yl,k⟩:=h
   have m1:=g.m1
   have m24:=g.m24
   have mp:0 < m:=by omega
   have p60:(0:Int) < 10 ^ Int.toNat 60:=Int.pow_pos (by decide)
   refine ⟨_,(pss_cons (ps_set (i:=5) sc_law_edge.nd rfl (Or.inl n_law_edge__head.l) (pe_op op_fdiv (pe_call G_law_drawn (hr.mono (by decide)) n_law_edge__law_drawn.g D_law_drawn.m D_law_drawn.F.kp D_law_drawn.b .nil (passQ hq) (pa_cons (pvl 0 n_law_edge__script) (pa_cons pe_int pa_nil)) (hdb:=n_law_edge__law_drawn.d)) pe_int)) (pss_cons (ps_set (i:=6) sc_law_edge.nd rfl (Or.inl n_law_edge__r.l) (pe_op op_mod (pe_op op_fdiv (pvl 5 n_law_edge__head) pe_int) (pvl 2 n_law_edge__many))) (pss_cons (ps_set (i:=7) sc_law_edge.nd rfl (Or.inl n_law_edge__due.l) (pe_ix ix_list (pe_call G_law_standings (hr.mono (by decide)) n_law_edge__law_standings.g D_law_standings.m D_law_standings.F.kp D_law_standings.b .nil (passQ hq) (pa_cons (pvl 1 n_law_edge__tolls) (pa_cons (pvl 2 n_law_edge__many) (pa_cons (pvl 3 n_law_edge__laying) (pa_cons (pvl 4 n_law_edge__wish) (pa_cons (pvl 6 n_law_edge__r) pa_nil))))) (hdb:=n_law_edge__law_standings.d)) (pvl 6 n_law_edge__r) (fun _ _=>rfl))) (pss_cons (ps_if (PW.pt (pw_and (pt_cmpR op_gt (pe_op op_mod (pvl 5 n_law_edge__head) pe_int) pe_int (nomark _)) (pw_and (pt_cmpR op_lt (pvl 7 n_law_edge__due) pe_int (nomark _)) (pw_and1 (pt_cmpR op_lt (pe_op op_sub (pe_ix ix_list (pvl 3 n_law_edge__laying) (pvl 6 n_law_edge__r) (fun _ _=>rfl)) (pvl 7 n_law_edge__due)) (pe_op op_pow pe_int pe_int) (nomark _)))))) (pss_one (ps_asg (pe_op op_sub (pe_ix ix_list (pvl 3 n_law_edge__laying) (pvl 6 n_law_edge__r) (fun _ _=>rfl)) (pvl 7 n_law_edge__due)) (pg_sub (pvl 3 n_law_edge__laying) (pvl 6 n_law_edge__r) set_list))) pss_nil) (pss_one (ps_if (PW.pt (pw_and (pt_cmpR op_eq (pe_op op_mod (pvl 5 n_law_edge__head) pe_int) pe_int (nomark _)) (pw_and (pt_cmpR op_ne (pvl 7 n_law_edge__due) pe_int (nomark _)) (pw_and1 (pt_cmpR op_gt (pe_ix ix_list (pvl 3 n_law_edge__laying) (pvl 6 n_law_edge__r) (fun _ _=>rfl)) pe_int (nomark _)))))) (pss_one (ps_asg (pe_op op_sub (pe_ix ix_list (pvl 3 n_law_edge__laying) (pvl 6 n_law_edge__r) (fun _ _=>rfl)) pe_int) (pg_sub (pvl 3 n_law_edge__laying) (pvl 6 n_law_edge__r) set_list))) pss_nil)))))),?_⟩
   rw [show L2.start ["script","tolls","many","laying","wish","head","r","due"] [V.ref a,V.ref dt,V.int m,V.ref lx,V.ref ly]=[some (V.ref a),some (V.ref dt),some (V.int m),some (V.ref lx),some (V.ref ly),none,none,none] from rfl]
   refine cutS fun N1 h1=>?_
   walk_at "rd"
   refine ⟨a,ns,0,rfl,ha,by decide,by decide,fun v0 v00=>⟨_,rfl,⟨by decide,by decide⟩,h1 _ _ (cutS fun N2 h2=>?_)⟩⟩
   generalize v0 / 4800=hd
   walk_at "rd"
   refine ⟨⟨by decide,by decide⟩,mp,h2 _ _ (cutS fun N3 h3=>?_)⟩
   have r0:=Int.emod_nonneg (hd / 3) (Int.ne_of_gt mp)
   have r1:=Int.emod_lt_of_pos (hd / 3) mp
   generalize hd / 3 % m=r at r0 r1 ⊢
   walk_at "rd"
   obtain ⟨par,dep,R⟩:=rooted g r0 r1
   refine ⟨dt,lx,ly,true,true,rs,xs,ys,m,r,rfl,ta,g,SqL.of hx,xl,SqL.of hy,yl,⟨r0,r1⟩,par,dep,R,fun l H1 nl s1 el=>?_⟩
   have gl:=atG (xs:=gatL m rs r par dep (fun v=>(overL m xs ys).getD v.toNat 0) (hnd rs par)) r0 (by unfold gatL; rw [List.length_map,below_length]; omega)
   generalize (gatL m rs r par dep (fun v=>(overL m xs ys).getD v.toNat 0) (hnd rs par)).getD r.toNat 0=du at gl
   refine ixL el gl (h3 _ _ (cutS fun N4 h4=>?_))
   have rest:∀ (zs:List Int) (H2:Hp),(zs.length:Int)=m→(∀ z∈zs,0≤z)→(∀ q o,q≠lx→H q=some o→H2 q=some o)→H2 lx=some (.lst (zs.map V.int))→N4 [some (V.ref a),some (V.ref dt),some (V.int m),some (V.ref lx),some (V.ref ly),some (V.int hd),some (V.int r),some (V.int du)] H2:=by
     intro zs H2 zl z0 oth hz
     refine h4 _ _ ?_
     have gz:=atG (xs:=zs) r0 (by omega)
     have zg:=getD_ge z0 r.toNat
     walk_at "rd"
     refine ⟨by decide,?_⟩
     have stay:Q .non H2:=k zs H2 zl z0 oth hz
     by_cases c1:hd % 3=2
     · rw [if_pos c1]
       by_cases c2:du=0
       · rw [if_neg (fun z=>z c2)]; exact stay
       · rw [if_pos c2]
         refine ixL hz gz ⟨_,rfl,?_⟩
         by_cases c3:0 < zs.getD r.toNat 0
         · rw [if_pos c3]
           refine ixL hz gz ⟨_,rfl,setR hz r0 (by rw [List.length_map]; omega) ?_⟩
           rw [← List.map_set]
           exact k _ _ (by rw [List.length_set]; exact zl) (ge_set z0 (by omega)) (fun q o n e=>by rw [upd_ne n]; exact oth q o n e) upd_same
         · rw [if_neg c3]; exact stay
     · rw [if_neg c1]; exact stay
   have st0:=rest xs H1 xl x0 (fun q o _ e=>s1 q o e) (s1 _ _ hx)
   have gx:=atG (xs:=xs) r0 (by omega)
   have xg:=getD_ge x0 r.toNat
   walk_at "rd"
   refine ⟨by decide,?_⟩
   by_cases c1:0 < hd % 3
   · rw [if_pos c1]
     by_cases c2:du < 0
     · rw [if_pos c2]
       refine ixL (s1 _ _ hx) gx ⟨_,rfl,⟨by decide,by decide,by decide⟩,?_⟩
       by_cases c3:xs.getD r.toNat 0 - du < 10 ^ Int.toNat 60
       · rw [if_pos c3]
         refine ixL (s1 _ _ hx) gx ⟨_,rfl,setR (s1 _ _ hx) r0 (by rw [List.length_map]; omega) ?_⟩
         rw [← List.map_set]
         exact rest _ _ (by rw [List.length_set]; exact xl) (ge_set x0 (by omega)) (fun q o n e=>by rw [upd_ne n]; exact s1 q o e) upd_same
       · rw [if_neg c3]; exact st0
     · rw [if_neg c2]; exact st0
   · rw [if_neg c1]; exact st0
/-! #### _law_laying -/
def sp_law_laying (T:Txt K mg):Sp:=fun vs H Q _=>∃ (a:Addr) (ns:List Int) (m b:Int),vs=[.ref a,.int m,.int b]∧SqL K H a (ns.map V.int)∧ns.length≤63∧1≤m∧m≤24∧1≤b∧∀ (l:Addr) (xs:List Int) (H':Hp),H l=none→Same H H'→H' l=some (.lst (xs.map V.int))→(xs.length:Int)=m→(∀ x∈xs,0≤x)→Q (.ref l) H'
abbrev s_law_laying:Stmt:=top 48
theorem sc_law_laying:FnScope ["script","many","bound","laying","k","place"] ["script","many","bound"] (defScope s_law_laying):=FnScope.of (by kernel_rfl)
theorem n_law_laying__script:NmL (defScope s_law_laying) "script":=.of (by kernel_rfl)
theorem n_law_laying__many:NmL (defScope s_law_laying) "many":=.of (by kernel_rfl)
theorem n_law_laying__bound:NmL (defScope s_law_laying) "bound":=.of (by kernel_rfl)
theorem n_law_laying__laying:NmL (defScope s_law_laying) "laying":=.of (by kernel_rfl)
theorem n_law_laying__k:NmL (defScope s_law_laying) "k":=.of (by kernel_rfl)
theorem n_law_laying__place:NmL (defScope s_law_laying) "place":=.of (by kernel_rfl)
theorem n_law_laying__range:NmG (defScope s_law_laying) "range":=.of (by kernel_rfl)
theorem n_law_laying__len:NmG (defScope s_law_laying) "len":=.of (by kernel_rfl)
theorem n_law_laying__law_drawn:NmG (defScope s_law_laying) "_law_drawn":=.of (by kernel_rfl)

theorem ok_law_laying (T:Txt K mg) (hq:Quiet (CXe P w)) {f:Addr} {fd:FuncData} (D:Df K mg "_law_laying" s_law_laying ["script","many","bound"] f fd) {f_law_drawn:Addr} {fd_law_drawn:FuncData} (D_law_drawn:Df K mg "_law_drawn" s_law_drawn ["script","k"] f_law_drawn fd_law_drawn) (G_law_drawn:FnOk P w K mg base (CXe P w) 1 f_law_drawn fd_law_drawn ["script","k"] (sp_law_drawn T)):FnOk P w K mg base (CXe P w) 2 f fd ["script","many","bound"] (sp_law_laying T):=by
 refine D.F.okC sc_law_laying (fun vs H Q E h=>?_) (fun cdv A outer s H vs Q E hr h=>?_)
 · obtain ⟨a,ns,m,b,rfl,_⟩:=h
   rfl
 · obtain ⟨a,ns,m,b,rfl,ha,hn,m0,m1,b0,k⟩:=h
   refine ⟨_,(pss_cons (ps_set (i:=3) sc_law_laying.nd rfl (Or.inl n_law_laying__laying.l) (pe_op op_rep (pe_lst (pa_cons pe_int pa_nil)) (pvl 1 n_law_laying__many))) (pss_cons (ps_for PassesOwn.never rfl (pi_range2 n_law_laying__range.g T.range (pa_cons (pvl 1 n_law_laying__many) (pa_cons (pe_callB call_len_seq n_law_laying__len.g T.len pb_len (pa_cons (pvl 0 n_law_laying__script) pa_nil) (hn:=n_law_laying__len.n) (hdb:=n_law_laying__len.d)) pa_nil))) (pg_name (i:=4) sc_law_laying.nd rfl (Or.inl n_law_laying__k.l)) (pss_one (ps_if (pt_cmpR op_eq (pe_op op_mod (pvl 4 n_law_laying__k) pe_int) pe_int (nomark _)) (pss_cons (ps_set (i:=5) sc_law_laying.nd rfl (Or.inl n_law_laying__place.l) (pe_op op_mod (pe_call G_law_drawn (hr.mono (by decide)) n_law_laying__law_drawn.g D_law_drawn.m D_law_drawn.F.kp D_law_drawn.b .nil (passQ hq) (pa_cons (pvl 0 n_law_laying__script) (pa_cons (pvl 4 n_law_laying__k) pa_nil)) (hdb:=n_law_laying__law_drawn.d)) (pvl 1 n_law_laying__many))) (pss_one (ps_asg (pe_op op_mod (pe_op op_add (pe_op op_mul (pe_ix ix_list (pvl 3 n_law_laying__laying) (pvl 5 n_law_laying__place) (fun _ _=>rfl)) pe_int) (pe_op op_fdiv (pe_call G_law_drawn (hr.mono (by decide)) n_law_laying__law_drawn.g D_law_drawn.m D_law_drawn.F.kp D_law_drawn.b .nil (passQ hq) (pa_cons (pvl 0 n_law_laying__script) (pa_cons (pvl 4 n_law_laying__k) pa_nil)) (hdb:=n_law_laying__law_drawn.d)) (pvl 1 n_law_laying__many))) (pvl 2 n_law_laying__bound)) (pg_sub (pvl 3 n_law_laying__laying) (pvl 5 n_law_laying__place) set_list)))) pss_nil))) (pss_one (ps_ret (pvl 3 n_law_laying__laying))))),?_⟩
   rw [show L2.start ["script","many","bound","laying","k","place"] [V.ref a,V.int m,V.int b]=[some (V.ref a),some (V.int m),some (V.int b),none,none,none] from rfl]
   walk_at "rd"
   refine ⟨smallE (by simp),fun l0 n0=>?_⟩
   refine ⟨l0,m,_,rfl,rfl,upd_same,by omega,by omega,smallE (by simp; omega),fun l n1=>?_⟩
   rw [flatR]
   have s0:Same H (upd H l0 (.lst [.int 0])):=Same.new _ n0
   have s1:=s0.trans (Same.new (.lst (List.replicate m.toNat (V.int 0))) n1)
   have nl:=s0.free n1
   refine ⟨_,.inl (Same.seq s1 ha),m,_,⟨rfl,rfl⟩,⟨by omega,by omega,by omega,by rw [List.length_map]; omega⟩,?_⟩
   rw [List.length_map]
   have e1:upd (upd H l0 (.lst [.int 0])) l (.lst (List.replicate m.toNat (V.int 0))) l=some (.lst ((List.replicate m.toNat (0:Int)).map V.int)):=by rw [upd_same,List.map_replicate]
   generalize upd (upd H l0 (.lst [.int 0])) l (.lst (List.replicate m.toNat (V.int 0)))=H1 at s1 e1 ⊢
   refine for_rangeN (fun i σ H2=>Same H H2∧∃ (xs:List Int) (v4 v5:Option V),H2 l=some (.lst (xs.map V.int))∧(xs.length:Int)=m∧(∀ x∈xs,0≤x)∧σ=[some (.ref a),some (.int m),some (.int b),some (.ref l),v4,v5]) ⟨s1,_,_,_,e1,by rw [List.length_replicate]; omega,fun x hx=>by rw [(List.mem_replicate.mp hx).2]; decide,rfl⟩ ?_ ?_
   · rintro i σ H2 N hN hi ⟨s2,xs,v4,v5,e2,xl,x0,rfl⟩
     have i0:0≤m + (i:Int):=by omega
     have i1:m + (i:Int)≤1000:=by omega
     generalize m + (i:Int)=j at i0 i1 ⊢
     have sa:=Same.seq s2 ha
     walk_at "rd"
     refine ⟨by decide,?_⟩
     by_cases z:j % 2=0
     · rw [if_pos z]
       refine ⟨a,ns,j,rfl,sa,i0,i1,fun c c0=>⟨c,rfl,by omega,?_⟩⟩
       have h1:=Int.emod_nonneg c (show m≠0 by omega)
       have h2:=Int.emod_lt_of_pos c (show 0 < m by omega)
       generalize c % m=p at h1 h2 ⊢
       refine ixL e2 (atG h1 (by omega)) ⟨_,rfl,.inr ⟨by decide,by decide⟩,a,ns,j,rfl,sa,i0,i1,fun c' c0'=>⟨c',rfl,⟨by omega,by omega⟩,by omega,setR e2 h1 (by rw [List.length_map]; omega) (hN _ _ ⟨s2.put nl _,xs.set p.toNat _,_,_,by rw [upd_same,List.map_set],by rw [List.length_set]; exact xl,ge_set x0 (Int.emod_nonneg _ (by omega)),rfl⟩)⟩⟩
     · rw [if_neg z]
       exact hN _ _ ⟨s2,xs,_,_,e2,xl,x0,rfl⟩
   · rintro σ H2 ⟨s2,xs,v4,v5,e2,xl,x0,rfl⟩
     exact ⟨_,rfl,k l xs H2 nl s2 e2 xl x0⟩
/-! #### _law_covers -/
def sp_law_covers (T:Txt K mg):Sp:=fun vs H Q _=>∃ (b:Addr) (ys:List Int) (v:V),vs=[v,.ref b]∧H b=some (.lst (ys.map V.int))∧ys.length≤1000 ∧
 ((v=.non∧Q (.bl false) H)∨∃ (a:Addr) (xs:List Int),v=.ref a∧H a=some (.lst (xs.map V.int))∧xs.length=ys.length∧∀ H',Same H H'→Q (.bl (cvL xs ys)) H')
abbrev s_law_covers:Stmt:=top 52
theorem sc_law_covers:FnScope ["held","wish"] ["held","wish"] (defScope s_law_covers):=FnScope.of (by kernel_rfl)
theorem n_law_covers__held:NmC (defScope s_law_covers) "held":=.of (by kernel_rfl)
theorem n_law_covers__wish:NmC (defScope s_law_covers) "wish":=.of (by kernel_rfl)
theorem n_law_covers__all:NmG (defScope s_law_covers) "all":=.of (by kernel_rfl)
theorem n_law_covers__range:NmG (defScope s_law_covers) "range":=.of (by kernel_rfl)
theorem n_law_covers__len:NmG (defScope s_law_covers) "len":=.of (by kernel_rfl)

theorem ok_law_covers (T:Txt K mg) (hq:Quiet (CXe P w)) {f:Addr} {fd:FuncData} (D:Df K mg "_law_covers" s_law_covers ["held","wish"] f fd):FnOk P w K mg base (CXe P w) 1 f fd ["held","wish"] (sp_law_covers T):=by
 refine D.F.okC sc_law_covers (fun vs H Q E h=>?_) (fun cdv A outer s H vs Q E hr h=>?_)
 · obtain ⟨b,ys,v,rfl,_⟩:=h
   rfl
 · obtain ⟨b,ys,v,rfl,hb,yl,hv⟩:=h
   refine ⟨_,(pss_one (ps_ret (pe_and (pe_cmp (pc_notN (pvc 0 n_law_covers__held))) (pe_one (pe_callB (call_all rfl) n_law_covers__all.g T.all pb_all (pa_cons (pe_comp rfl (ct_clos (Nc:=["place","held","wish"]) 1 [0,1] (by decide +kernel) rfl (by decide +kernel) rfl (by show ∀ (y:Str × NameKind),y∈_→y.2=NameKind.free→(defScope s_law_covers).names.lookup y.1=some NameKind.cell; decide +kernel) rfl (fun _ h=>cell_has h) (fun i hi=>match i,hi with | 0,_=>⟨"held",0,rfl,rfl,rfl,by decide +kernel⟩ | 1,_=>⟨"wish",1,rfl,rfl,rfl,by decide +kernel⟩ | i + 2,hi=>absurd hi (by show ¬ i + 2 < 2; omega))) (pi_range1 n_law_covers__range.g T.range (pa_cons (pe_callB call_len_seq n_law_covers__len.g T.len pb_len (pa_cons (pvc 1 n_law_covers__wish) pa_nil) (hn:=n_law_covers__len.n) (hdb:=n_law_covers__len.d)) pa_nil)) (fun _ _ _ _=>(pg_name (i:=0) (show (["place","held","wish"]:List Str).Nodup from by decide +kernel) rfl (Or.inl rfl))) (fun _ _ _ _=>pts_nil) (fun _ _ _ _=>(pe_cmpR op_ge (pe_ix (ix_listK K rfl) (pv 1) (pv 0) (fun _ _=>rfl)) (pe_ix (ix_listK K rfl) (pv 2) (pv 0) (fun _ _=>rfl)) (nomark _)))) pa_nil) (hn:=n_law_covers__all.n) (hdb:=n_law_covers__all.d)))))),?_⟩
   rw [show L2.start ["held","wish"] [v,V.ref b]=[some v,some (V.ref b)] from rfl]
   walk_at "rd"
   rcases hv with ⟨rfl,k⟩ | ⟨a,xs,rfl,ha,xl,k⟩
   · rw [if_neg (fun z=>z rfl)]
     exact k
   · rw [if_pos (by simp)]
     refine ⟨_,.inl (SqL.of hb),?_⟩
     rw [List.length_map]
     refine ⟨by omega,by omega,fun pc nc=>?_⟩
     refine comp_range (fun i zs σ H3=>Same H H3∧H3 pc=some (.lst zs)∧zs=((List.range i).map fun i=>decide (ys.getD i 0≤xs.getD i 0)).map V.bl∧∃ v,σ=[v,some (V.ref a),some (V.ref b)]) ⟨Same.new _ nc,upd_same,rfl,_,rfl⟩ ?_ ?_
     · rintro i zs σ H3 N hN hi ⟨s3,e3,rfl,v,rfl⟩
       rw [Int.zero_add]
       have i0:(0:Int)≤(i:Int):=by omega
       have ga:=atG (xs:=xs) i0 (by omega)
       have gb:=atG (xs:=ys) i0 (by omega)
       rw [Int.toNat_natCast] at ga gb
       walk_at "rd"
       refine ixL (s3 _ _ ha) ga (ixL (s3 _ _ hb) gb ⟨_,rfl,_,rfl,e3,small (by simp; omega),hN _ _ _ ⟨s3.put nc _,upd_same,?_,_,rfl⟩⟩)
       rw [List.range_succ,List.map_append,List.map_append]
       rfl
     · rintro zs σ H3 ⟨s3,e3,rfl,v,rfl⟩
       refine ⟨pc,rfl,_,SqL.of e3,?_⟩
       have:=k H3 s3
       rw [cvL_at xl] at this
       exact this
/-! #### _law_done -/
def sp_law_done (T:Txt K mg):Sp:=fun vs H Q _=>∃ (dt a s:Addr) (d:Bool) (m:Int) (rs:List Road) (xs:List Int) (qs:List Addr) (ss:List Stp),vs=[.ref dt,.ref a,.ref s]∧TollsAt H dt rs∧Good m rs∧H a=some (.lst (xs.map V.int))∧(xs.length:Int)=m∧AtX d H s (qs.map V.ref)∧StepsAt H qs ss ∧
 (CanAll m rs xs ss→∀ l H',H l=none→Same H H'→H' l=some (.lst ((stAt rs xs ss ss.length).map V.int))→Q (.ref l) H')∧(¬ CanAll m rs xs ss→∀ H',Same H H'→Q .non H')
abbrev s_law_done:Stmt:=top 51
theorem sc_law_done:FnScope ["tolls","laying","steps","held","a","b","often"] ["tolls","laying","steps"] (defScope s_law_done):=FnScope.of (by kernel_rfl)
theorem n_law_done__tolls:NmL (defScope s_law_done) "tolls":=.of (by kernel_rfl)
theorem n_law_done__laying:NmL (defScope s_law_done) "laying":=.of (by kernel_rfl)
theorem n_law_done__steps:NmL (defScope s_law_done) "steps":=.of (by kernel_rfl)
theorem n_law_done__held:NmL (defScope s_law_done) "held":=.of (by kernel_rfl)
theorem n_law_done__a:NmL (defScope s_law_done) "a":=.of (by kernel_rfl)
theorem n_law_done__b:NmL (defScope s_law_done) "b":=.of (by kernel_rfl)
theorem n_law_done__often:NmL (defScope s_law_done) "often":=.of (by kernel_rfl)
theorem n_law_done__list:NmG (defScope s_law_done) "list":=.of (by kernel_rfl)

theorem ok_law_done (T:Txt K mg) (hq:Quiet (CXe P w)) {f:Addr} {fd:FuncData} (D:Df K mg "_law_done" s_law_done ["tolls","laying","steps"] f fd):FnOk P w K mg base (CXe P w) 1 f fd ["tolls","laying","steps"] (sp_law_done T):=by
 refine D.F.okC sc_law_done (fun vs H Q E h=>?_) (fun cdv A outer s H vs Q E hr h=>?_)
 · obtain ⟨dt,a,s,d,m,rs,xs,qs,ss,rfl,_⟩:=h
   rfl
 · obtain ⟨dt,a,s,d,m,rs,xs,qs,ss,rfl,ta,g,ha,xl,hs,st,k,kn⟩:=h
   have hu:=hu_of hr
   have m24:=g.m24
   have ql:qs.length=ss.length:=Paired.length st
   refine ⟨_,(pss_cons (ps_set (i:=3) sc_law_done.nd rfl (Or.inl n_law_done__held.l) (pe_callTy call_list_of n_law_done__list.g T.list pb_list (pa_cons (pvl 1 n_law_done__laying) pa_nil) (hn:=n_law_done__list.n) (hdb:=n_law_done__list.d))) (pss_cons (ps_for PassesOwn.never rfl (pi_any d (pvl 2 n_law_done__steps)) (pg_tup (n:=3) rfl (pgs_cons (pg_name (i:=4) sc_law_done.nd rfl (Or.inl n_law_done__a.l)) (pgs_cons (pg_name (i:=5) sc_law_done.nd rfl (Or.inl n_law_done__b.l)) (pgs_cons (pg_name (i:=6) sc_law_done.nd rfl (Or.inl n_law_done__often.l)) pgs_nil)))) (pss_cons (ps_if (PW.pt (pw_or (pt_cmpR op_lt (pvl 6 n_law_done__often) pe_int (nomark _)) (pw_or (pt_cmp (pc_dnotin hu (pe_tup (pa_cons (pvl 4 n_law_done__a) (pa_cons (pvl 5 n_law_done__b) pa_nil))) (pvl 0 n_law_done__tolls))) (pw_or1 (pt_cmpR op_lt (pe_ix ix_list (pvl 3 n_law_done__held) (pvl 4 n_law_done__a) (fun _ _=>rfl)) (pe_op op_mul (pvl 6 n_law_done__often) (pe_dget hu (pvl 0 n_law_done__tolls) (pe_tup (pa_cons (pvl 4 n_law_done__a) (pa_cons (pvl 5 n_law_done__b) pa_nil))) (fun _ _=>rfl))) (nomark _)))))) (pss_one (ps_ret pe_non)) pss_nil) (pss_cons (ps_asg (pe_op op_sub (pe_ix ix_list (pvl 3 n_law_done__held) (pvl 4 n_law_done__a) (fun _ _=>rfl)) (pe_op op_mul (pvl 6 n_law_done__often) (pe_dget hu (pvl 0 n_law_done__tolls) (pe_tup (pa_cons (pvl 4 n_law_done__a) (pa_cons (pvl 5 n_law_done__b) pa_nil))) (fun _ _=>rfl)))) (pg_sub (pvl 3 n_law_done__held) (pvl 4 n_law_done__a) set_list)) (pss_one (ps_asg (pe_op op_add (pe_ix ix_list (pvl 3 n_law_done__held) (pvl 5 n_law_done__b) (fun _ _=>rfl)) (pvl 6 n_law_done__often)) (pg_sub (pvl 3 n_law_done__held) (pvl 5 n_law_done__b) set_list)))))) (pss_one (ps_ret (pvl 3 n_law_done__held))))),?_⟩
   rw [show L2.start ["tolls","laying","steps","held","a","b","often"] [V.ref dt,V.ref a,V.ref s]=[some (V.ref dt),some (V.ref a),some (V.ref s),none,none,none,none] from rfl]
   refine cutS fun N1 h1=>?_
   walk_at "rd"
   refine ⟨_,.inl (SqL.of ha),fun ln nn=>h1 _ _ (cutS fun N2 h2=>?_)⟩
   have s1:=Same.new (.lst (xs.map V.int)) nn
   have en:upd H ln (.lst (xs.map V.int)) ln=some (.lst (xs.map V.int)):=upd_same
   generalize upd H ln (.lst (xs.map V.int))=H1 at s1 en ⊢
   walk_at "rd"
   have hsX:∀ {H3:Hp},Same H H3→SqX K d H3 s (qs.map V.ref):=fun {H3} s3=>AtX.sq (K:=K) (show AtX d H3 s (qs.map V.ref) from s3 _ _ hs)
   refine ⟨⟨_,hsX s1⟩,?_⟩
   refine for_anyN (K:=K) (c:=d) (xs:=qs.map V.ref) (fun i σ H3=>Same H H3∧i≤ss.length∧(∀ j t,j < i→ss[j]?=some t→canDo m rs (stAt rs xs ss j) t=true)∧∃ (v4 v5 v6:Option V),H3 ln=some (.lst ((stAt rs xs ss i).map V.int))∧σ=[some (V.ref dt),some (V.ref a),some (V.ref s),some (V.ref ln),v4,v5,v6]) ⟨s1,Nat.zero_le _,fun j t h=>absurd h (Nat.not_lt_zero _),_,_,_,by rw [stAt_zero]; exact en,rfl⟩ (fun i σ H3 _ z=>hsX z.1) ?_ ?_
   · rintro i x σ H3 N hN hx ⟨s3,il,bf,v4,v5,v6,e3,rfl⟩
     obtain ⟨q,t,rfl,h1',h2',h3'⟩:=(StepsAt.same s3 st).get hx
     have il2:i < ss.length:=(List.getElem?_eq_some_iff.mp h2').1
     obtain ⟨u,v,n⟩:=t
     have sl:=stAt_len rs xs ss i
     have bad:canDo m rs (stAt rs xs ss i) (u,v,n)=false→∀ H',Same H H'→Q .non H':=fun z=>kn fun ca=>by
       rw [ca i _ h2'] at z; cases z
     walk_at "rd"
     refine ⟨_,SqT.of h3',rfl,_,_,rfl,_,_,rfl,_,_,rfl,rfl,?_⟩
     dsimp only
     refine ⟨n,rfl,?_⟩
     by_cases c1:n < 1
     · rw [if_pos c1]
       refine bad ?_ H3 s3
       unfold canDo isStp
       rw [decide_eq_false (show ¬ 1≤(u,v,n).2.2 from by show ¬ 1≤n; omega),Bool.and_false,Bool.false_and]
     rw [if_neg c1]
     have get:∀ {H4:Hp} {q':Addr},Same H H4→H4 q'=none→DGet (upd H4 q' (.tup [V.int u,V.int v])) dt (V.ref q') ((tollOf rs u v).map V.int):=fun {H4 q'} s4 nq'=>by
       obtain ⟨kvs,hkv,hv2⟩:=(ta.same s4).ex
       have hg:=DGet.t (k:=[.inl u,.inl v]) (Same.new (.tup [V.int u,V.int v]) nq' _ _ hkv) upd_same
       rw [hv2] at hg
       exact hg
     refine ⟨smallE (by simp),fun q1 n1=>⟨_,get s3 n1,?_⟩⟩
     have t1:=Same.new (.tup [V.int u,V.int v]) n1
     have s4:=s3.trans t1
     have e4:=t1 _ _ e3
     change Same H (upd H3 q1 (.tup [V.int u,V.int v])) at s4
     show ite _ (Q .non (upd H3 q1 (.tup [V.int u,V.int v]))) _
     generalize upd H3 q1 (.tup [V.int u,V.int v])=H4 at s4 e4 ⊢
     cases ht:tollOf rs u v with
     | none =>
       rw [if_pos (by rfl)]
       exact bad (canDo_no g ht) H4 s4
     | some kk =>
       rw [ht] at get
       rw [if_neg (by simp)]
       have ad:Adj rs u v:=toll_adj.mp (by rw [ht]; rfl)
       obtain ⟨ar,br,nuv⟩:=g.adj ad
       obtain ⟨k0,e0,kr⟩:=toll_rng g ad
       rw [ht] at e0
       cases e0
       have gu:=atG (xs:=stAt rs xs ss i) ar.1 (by omega)
       refine ixL e4 gu ⟨smallE (by simp),fun q2 n2=>⟨_,get s4 n2,n,rfl,kk,rfl,.inr ⟨by omega,by omega⟩,_,rfl,?_⟩⟩
       have s5:=s4.trans (Same.new (.tup [V.int u,V.int v]) n2)
       have e5:=Same.new (.tup [V.int u,V.int v]) n2 _ _ e4
       show ite _ (Q .non (upd H4 q2 (.tup [V.int u,V.int v]))) _
       generalize upd H4 q2 (.tup [V.int u,V.int v])=H5 at s5 e5 ⊢
       have cdo:=canDo_tl (m:=m) (xs:=stAt rs xs ss i) (s:=(u,v,n)) g ht
       by_cases c2:(stAt rs xs ss i).getD u.toNat 0 < n * kk
       · rw [if_pos c2]
         refine bad ?_ H5 s5
         rw [cdo,decide_eq_false (show ¬ kk * (u,v,n).2.2≤(stAt rs xs ss i).getD (u,v,n).1.toNat 0 from by show ¬ kk * n≤(stAt rs xs ss i).getD u.toNat 0; rw [Int.mul_comm]; omega),Bool.and_false]
       · rw [if_neg c2]
         have yes:canDo m rs (stAt rs xs ss i) (u,v,n)=true:=by
           rw [cdo,decide_eq_true (show 0 < (u,v,n).2.2 from by show 0 < n; omega),decide_eq_true (show kk * (u,v,n).2.2≤(stAt rs xs ss i).getD (u,v,n).1.toNat 0 from by show kk * n≤(stAt rs xs ss i).getD u.toNat 0; rw [Int.mul_comm]; omega)]
           rfl
         have hst:stAt rs xs ss (i + 1)=((stAt rs xs ss i).set u.toNat ((stAt rs xs ss i).getD u.toNat 0 - n * kk)).set v.toNat (((stAt rs xs ss i).set u.toNat ((stAt rs xs ss i).getD u.toNat 0 - n * kk)).getD v.toNat 0 + n):=by
           rw [stAt_succ h2']
           unfold stepL tollD
           rw [ht]
           rfl
         refine ixL e5 gu ⟨smallE (by simp),fun q3 n3=>⟨_,get s5 n3,n,rfl,kk,rfl,.inr ⟨by omega,by omega⟩,_,rfl,?_⟩⟩
         have s6:=s5.trans (Same.new (.tup [V.int u,V.int v]) n3)
         have e6:=Same.new (.tup [V.int u,V.int v]) n3 _ _ e5
         show rSetL _ _ _ (upd H5 q3 (.tup [V.int u,V.int v])) _
         generalize upd H5 q3 (.tup [V.int u,V.int v])=H6 at s6 e6 ⊢
         refine setR e6 ar.1 (by rw [List.length_map]; omega) ?_
         rw [← List.map_set]
         have yl:((stAt rs xs ss i).set u.toNat ((stAt rs xs ss i).getD u.toNat 0 - n * kk)).length=xs.length:=by rw [List.length_set]; exact sl
         generalize (stAt rs xs ss i).set u.toNat ((stAt rs xs ss i).getD u.toNat 0 - n * kk)=ys at yl hst ⊢
         have ey:upd H6 ln (.lst (ys.map V.int)) ln=some (.lst (ys.map V.int)):=upd_same
         refine ixL ey (atG br.1 (by omega)) ⟨_,rfl,n,rfl,setR ey br.1 (by rw [List.length_map]; omega) ?_⟩
         rw [upd_upd,← List.map_set,← hst]
         refine hN _ _ ⟨s6.put nn _,il2,fun j t hj ht'=>?_,_,_,_,upd_same,rfl⟩
         by_cases z:j=i
         · subst z
           rw [h2'] at ht'
           cases ht'
           exact yes
         · exact bf j t (by omega) ht'
   · rintro σ H3 ⟨s3,il,bf,v4,v5,v6,e3,rfl⟩
     rw [List.length_map,ql] at bf e3
     refine h2 _ _ ?_
     walk_at "rd"
     exact k (fun j t ht=>bf j t (List.getElem?_eq_some_iff.mp ht).1 ht) ln H3 nn s3 e3
/-! #### check_place -/
def sp_check_place (T:Txt K mg):Sp:=fun vs H Q E=>∃ (p t:Addr) (m:Int) (ps:List Addr) (rs:List Road) (n:Int),vs=[.ref p,.int n]∧WebAt T.Web H p m t ps rs∧(0≤n→n < m→Q .non H)∧(¬ (0≤n∧n < m)→E (.ref T.NoPlace) none H)
abbrev s_check_place:Stmt:=top 14
theorem sc_check_place:FnScope ["web","number"] ["web","number"] (defScope s_check_place):=FnScope.of (by kernel_rfl)
theorem n_check_place__web:NmL (defScope s_check_place) "web":=.of (by kernel_rfl)
theorem n_check_place__number:NmL (defScope s_check_place) "number":=.of (by kernel_rfl)
theorem n_check_place__is_place:NmG (defScope s_check_place) "is_place":=.of (by kernel_rfl)
theorem n_check_place__NoPlace:NmG (defScope s_check_place) "NoPlace":=.of (by kernel_rfl)

theorem ok_check_place (T:Txt K mg) (hq:Quiet (CXe P w)) {f:Addr} {fd:FuncData} (D:Df K mg "check_place" s_check_place ["web","number"] f fd) {f_is_place:Addr} {fd_is_place:FuncData} (D_is_place:Df K mg "is_place" s_is_place ["many","number"] f_is_place fd_is_place) (G_is_place:FnOk P w K mg base (CXe P w) 1 f_is_place fd_is_place ["many","number"] (sp_is_place T)):FnOk P w K mg base (CXe P w) 2 f fd ["web","number"] (sp_check_place T):=by
 refine D.F.okX sc_check_place (fun vs H Q E h=>?_) (fun cdv A outer s H vs Q E hr h=>?_)
 · obtain ⟨p,t,m,ps,rs,n,rfl,_⟩:=h
   rfl
 · obtain ⟨p,t,m,ps,rs,n,rfl,W,k,e⟩:=h
   obtain ⟨dx,ob⟩:=W.ob
   refine ⟨_,(pss_one (ps_if (pt_not (pt_val (pe_call G_is_place (hr.mono (by decide)) n_check_place__is_place.g D_is_place.m D_is_place.F.kp D_is_place.b .nil passX (pa_cons (pe_fld  (pvl 0 n_check_place__web) rfl) (pa_cons (pvl 1 n_check_place__number) pa_nil)) (hdb:=n_check_place__is_place.d)))) (pss_one (ps_raise T.e_NoPlace rfl raisesX n_check_place__NoPlace.g T.m_NoPlace (pa_cons pe_str pa_nil) (hdb:=n_check_place__NoPlace.d))) pss_nil)),?_⟩
   rw [show L2.start ["web","number"] [V.ref p,V.int n]=[some (V.ref p),some (V.int n)] from rfl]
   walk_at "rd"
   refine ⟨T.Web,dx,_,ob,T.cl_Web,T.n_many,_,wflds_many m t,m,n,rfl,_,rfl,?_⟩
   by_cases c:0≤n∧n < m
   · rw [if_neg (by simp [c.1,c.2])]
     exact k c.1 c.2
   · rw [if_pos (by simpa [Bool.and_eq_true] using c)]
     exact ⟨by decide,e c⟩
/-! #### toll -/
def sp_toll (T:Txt K mg):Sp:=fun vs H Q E=>∃ (p t:Addr) (m:Int) (ps:List Addr) (rs:List Road) (a b:Int),vs=[.ref p,.int a,.int b]∧WebAt T.Web H p m t ps rs ∧
 (∀ k,0≤a→a < m→0≤b→b < m→tollOf rs a b=some k→Q (.int k) H)∧(¬ ((0≤a∧a < m)∧(0≤b∧b < m))→E (.ref T.NoPlace) none H)∧(0≤a→a < m→0≤b→b < m→tollOf rs a b=none→E (.ref T.NoRoad) none H)
abbrev s_toll:Stmt:=top 12
theorem sc_toll:FnScope ["web","a","b","one","other","there","back"] ["web","a","b"] (defScope s_toll):=FnScope.of (by kernel_rfl)
theorem n_toll__web:NmL (defScope s_toll) "web":=.of (by kernel_rfl)
theorem n_toll__a:NmL (defScope s_toll) "a":=.of (by kernel_rfl)
theorem n_toll__b:NmL (defScope s_toll) "b":=.of (by kernel_rfl)
theorem n_toll__one:NmL (defScope s_toll) "one":=.of (by kernel_rfl)
theorem n_toll__other:NmL (defScope s_toll) "other":=.of (by kernel_rfl)
theorem n_toll__there:NmL (defScope s_toll) "there":=.of (by kernel_rfl)
theorem n_toll__back:NmL (defScope s_toll) "back":=.of (by kernel_rfl)
theorem n_toll__check_place:NmG (defScope s_toll) "check_place":=.of (by kernel_rfl)
theorem n_toll__NoRoad:NmG (defScope s_toll) "NoRoad":=.of (by kernel_rfl)

theorem ok_toll (T:Txt K mg) (hq:Quiet (CXe P w)) {f:Addr} {fd:FuncData} (D:Df K mg "toll" s_toll ["web","a","b"] f fd) {f_check_place:Addr} {fd_check_place:FuncData} (D_check_place:Df K mg "check_place" s_check_place ["web","number"] f_check_place fd_check_place) (G_check_place:FnOk P w K mg base (CXe P w) 2 f_check_place fd_check_place ["web","number"] (sp_check_place T)):FnOk P w K mg base (CXe P w) 3 f fd ["web","a","b"] (sp_toll T):=by
 refine D.F.okX sc_toll (fun vs H Q E h=>?_) (fun cdv A outer s H vs Q E hr h=>?_)
 · obtain ⟨p,t,m,ps,rs,a,b,rfl,_⟩:=h
   rfl
 · obtain ⟨p,t,m,ps,rs,a,b,rfl,W,k,e1,e2⟩:=h
   obtain ⟨dx,ob⟩:=W.ob
   refine ⟨_,(pss_cons (ps_expr (pe_call G_check_place (hr.mono (by decide)) n_toll__check_place.g D_check_place.m D_check_place.F.kp D_check_place.b .nil passX (pa_cons (pvl 0 n_toll__web) (pa_cons (pvl 1 n_toll__a) pa_nil)) (hdb:=n_toll__check_place.d))) (pss_cons (ps_expr (pe_call G_check_place (hr.mono (by decide)) n_toll__check_place.g D_check_place.m D_check_place.F.kp D_check_place.b .nil passX (pa_cons (pvl 0 n_toll__web) (pa_cons (pvl 2 n_toll__b) pa_nil)) (hdb:=n_toll__check_place.d))) (pss_cons (ps_for PassesOwn.leaving rfl (pi_tup (pe_fld  (pvl 0 n_toll__web) rfl)) (pg_tup (n:=4) rfl (pgs_cons (pg_name (i:=3) sc_toll.nd rfl (Or.inl n_toll__one.l)) (pgs_cons (pg_name (i:=4) sc_toll.nd rfl (Or.inl n_toll__other.l)) (pgs_cons (pg_name (i:=5) sc_toll.nd rfl (Or.inl n_toll__there.l)) (pgs_cons (pg_name (i:=6) sc_toll.nd rfl (Or.inl n_toll__back.l)) pgs_nil))))) (pss_cons (ps_if (PW.pt (pw_and (pt_cmpR op_eq (pvl 3 n_toll__one) (pvl 1 n_toll__a) (nomark _)) (pw_and1 (pt_cmpR op_eq (pvl 4 n_toll__other) (pvl 2 n_toll__b) (nomark _))))) (pss_one (ps_ret (pvl 5 n_toll__there))) pss_nil) (pss_one (ps_if (PW.pt (pw_and (pt_cmpR op_eq (pvl 3 n_toll__one) (pvl 2 n_toll__b) (nomark _)) (pw_and1 (pt_cmpR op_eq (pvl 4 n_toll__other) (pvl 1 n_toll__a) (nomark _))))) (pss_one (ps_ret (pvl 6 n_toll__back))) pss_nil)))) (pss_one (ps_raise T.e_NoRoad rfl raisesX n_toll__NoRoad.g T.m_NoRoad (pa_cons pe_str pa_nil) (hdb:=n_toll__NoRoad.d)))))),?_⟩
   rw [show L2.start ["web","a","b","one","other","there","back"] [V.ref p,V.int a,V.int b]=[some (V.ref p),some (V.int a),some (V.int b),none,none,none,none] from rfl]
   walk_at "rd"
   refine ⟨p,t,m,ps,rs,a,rfl,W,fun a0 a1=>?_,fun z=>e1 fun w=>z w.1⟩
   refine ⟨p,t,m,ps,rs,b,rfl,W,fun b0 b1=>?_,fun z=>e1 fun w=>z w.2⟩
   refine ⟨T.Web,dx,_,ob,T.cl_Web,T.n_roads,_,wflds_roads m t,t,rfl,⟨_,SqT.of W.tu⟩,?_⟩
   have hlen:ps.length=rs.length:=Paired.length W.ro
   refine for_tupN (K:=K) (xs:=ps.map V.ref) (fun i σ H2=>H2=H∧tollOf (rs.take i) a b=none∧∃ v1 v2 v3 v4,σ=[some (V.ref p),some (V.int a),some (V.int b),v1,v2,v3,v4]) ⟨rfl,rfl,_,_,_,_,rfl⟩ (fun i σ H2 _ z=>by rw [z.1]; exact SqT.of W.tu) ?_ ?_
   · rintro i x σ H2 N hN hx ⟨rfl,hno,v1,v2,v3,v4,rfl⟩
     obtain ⟨q,r,rfl,h1,h2,h3⟩:=W.ro.get hx
     have et:rs.take (i + 1)=rs.take i ++ [r]:=by rw [List.take_succ,h2]; rfl
     have split:tollOf rs a b=(tollOf (rs.take i) a b).or ((toll1 a b r).or (tollOf (rs.drop (i + 1)) a b)):=by
       have:rs=rs.take i ++ r :: rs.drop (i + 1):=by
         have hil:i < rs.length:=(List.getElem?_eq_some_iff.mp h2).1
         have e:rs[i]=r:=by rw [List.getElem?_eq_getElem hil] at h2; exact Option.some.inj h2
         rw [← e,List.getElem_cons_drop,List.take_append_drop]
       conv=>lhs; rw [this]
       unfold tollOf
       rw [List.findSome?_append,List.findSome?_cons]
       cases toll1 a b r <;> rfl
     rw [hno,Option.none_or] at split
     walk_at "rd"
     refine ⟨_,SqT.of h3,rfl,_,_,rfl,_,_,rfl,_,_,rfl,_,_,rfl,rfl,?_⟩
     walk_at "rd"
     have next:toll1 a b r=none→N [some (V.ref p),some (V.int a),some (V.int b),some (V.int r.a),some (V.int r.b),some (V.int r.t),some (V.int r.u)] H2:=fun z=>hN _ _ ⟨rfl,by
       rw [et]
       unfold tollOf at hno ⊢
       rw [List.findSome?_append,hno,List.findSome?_cons,z]
       rfl,_,_,_,_,rfl⟩
     have got:∀ v,toll1 a b r=some v→tollOf rs a b=some v:=fun v z=>by rw [split,z]; rfl
     unfold toll1 at next got
     split
     · rename_i c1
       split
       · rename_i c2
         exact k _ a0 a1 b0 b1 (got _ (by rw [if_pos ⟨c1,c2⟩]))
       · rename_i c2
         split
         · rename_i c3
           split
           · rename_i c4
             exact k _ a0 a1 b0 b1 (got _ (by rw [if_neg (fun z=>c2 z.2),if_pos ⟨c3,c4⟩]))
           · rename_i c4
             exact next (by rw [if_neg (fun z=>c2 z.2),if_neg (fun z=>c4 z.2)])
         · rename_i c3
           exact next (by rw [if_neg (fun z=>c2 z.2),if_neg (fun z=>c3 z.1)])
     · rename_i c1
       split
       · rename_i c3
         split
         · rename_i c4
           exact k _ a0 a1 b0 b1 (got _ (by rw [if_neg (fun z=>c1 z.1),if_pos ⟨c3,c4⟩]))
         · rename_i c4
           exact next (by rw [if_neg (fun z=>c1 z.1),if_neg (fun z=>c4 z.2)])
       · rename_i c3
         exact next (by rw [if_neg (fun z=>c1 z.1),if_neg (fun z=>c3 z.1)])
   · rintro σ H2 ⟨rfl,hno,v1,v2,v3,v4,rfl⟩
     rw [List.length_map,hlen,List.take_length] at hno
     walk_at "rd"
     exact ⟨by decide,e2 a0 a1 b0 b1 hno⟩
/-! #### handed_on -/
def sp_handed_on (T:Txt K mg):Sp:=fun vs H Q _=>∃ (p t:Addr) (m:Int) (ps:List Addr) (rs:List Road) (x v u k1 k2:Int),vs=[.ref p,.int x,.int v,.int u]∧WebAt T.Web H p m t ps rs∧(0≤v∧v < m)∧(0≤u∧u < m)∧tollOf rs v u=some k1∧tollOf rs u v=some k2∧(2≤k1∧k1≤1000000)∧(2≤k2∧k2≤1000000)∧Q (.int (if 0≤x then x / k1 else x * k2)) H
abbrev s_handed_on:Stmt:=top 32
theorem sc_handed_on:FnScope ["web","over","place","front"] ["web","over","place","front"] (defScope s_handed_on):=FnScope.of (by kernel_rfl)
theorem n_handed_on__web:NmL (defScope s_handed_on) "web":=.of (by kernel_rfl)
theorem n_handed_on__over:NmL (defScope s_handed_on) "over":=.of (by kernel_rfl)
theorem n_handed_on__place:NmL (defScope s_handed_on) "place":=.of (by kernel_rfl)
theorem n_handed_on__front:NmL (defScope s_handed_on) "front":=.of (by kernel_rfl)
theorem n_handed_on__toll:NmG (defScope s_handed_on) "toll":=.of (by kernel_rfl)

theorem ok_handed_on (T:Txt K mg) (hq:Quiet (CXe P w)) {f:Addr} {fd:FuncData} (D:Df K mg "handed_on" s_handed_on ["web","over","place","front"] f fd) {f_toll:Addr} {fd_toll:FuncData} (D_toll:Df K mg "toll" s_toll ["web","a","b"] f_toll fd_toll) (G_toll:FnOk P w K mg base (CXe P w) 3 f_toll fd_toll ["web","a","b"] (sp_toll T)):FnOk P w K mg base (CXe P w) 4 f fd ["web","over","place","front"] (sp_handed_on T):=by
 refine D.F.okX sc_handed_on (fun vs H Q E h=>?_) (fun cdv A outer s H vs Q E hr h=>?_)
 · obtain ⟨p,t,m,ps,rs,x,v,u,k1,k2,rfl,_⟩:=h
   rfl
 · obtain ⟨p,t,m,ps,rs,x,v,u,k1,k2,rfl,W,vr,ur,h1,h2,kr1,kr2,k⟩:=h
   refine ⟨_,(pss_cons (ps_if (pt_cmpR op_ge (pvl 1 n_handed_on__over) pe_int (nomark _)) (pss_one (ps_ret (pe_op op_fdiv (pvl 1 n_handed_on__over) (pe_call G_toll (hr.mono (by decide)) n_handed_on__toll.g D_toll.m D_toll.F.kp D_toll.b .nil passX (pa_cons (pvl 0 n_handed_on__web) (pa_cons (pvl 2 n_handed_on__place) (pa_cons (pvl 3 n_handed_on__front) pa_nil))) (hdb:=n_handed_on__toll.d))))) pss_nil) (pss_one (ps_ret (pe_op op_mul (pvl 1 n_handed_on__over) (pe_call G_toll (hr.mono (by decide)) n_handed_on__toll.g D_toll.m D_toll.F.kp D_toll.b .nil passX (pa_cons (pvl 0 n_handed_on__web) (pa_cons (pvl 3 n_handed_on__front) (pa_cons (pvl 2 n_handed_on__place) pa_nil))) (hdb:=n_handed_on__toll.d)))))),?_⟩
   rw [show L2.start ["web","over","place","front"] [V.ref p,V.int x,V.int v,V.int u]=[some (V.ref p),some (V.int x),some (V.int v),some (V.int u)] from rfl]
   walk_at "rd"
   by_cases c:0≤x
   · rw [if_pos c] at k ⊢
     refine ⟨p,t,m,ps,rs,v,u,rfl,W,fun k' _ _ _ _ h=>?_,fun z=>absurd ⟨vr,ur⟩ z,fun _ _ _ _ z=>by rw [h1] at z; cases z⟩
     rw [h1] at h
     cases h
     exact ⟨_,rfl,⟨by omega,by omega⟩,k⟩
   · rw [if_neg c] at k ⊢
     refine ⟨p,t,m,ps,rs,u,v,rfl,W,fun k' _ _ _ _ h=>?_,fun z=>absurd ⟨ur,vr⟩ z,fun _ _ _ _ z=>by rw [h2] at z; cases z⟩
     rw [h2] at h
     cases h
     exact ⟨_,rfl,.inr ⟨by omega,by omega⟩,k⟩
/-! #### neighbours -/
def sp_neighbours (T:Txt K mg):Sp:=fun vs H Q E=>∃ (p t:Addr) (m:Int) (ps:List Addr) (rs:List Road) (a:Int),vs=[.ref p,.int a]∧WebAt T.Web H p m t ps rs ∧
 (∀ l H',0≤a→a < m→H l=none→Same H H'→H' l=some (.lst ((nbrs m rs a).map V.int))→Q (.ref l) H')∧(¬ (0≤a∧a < m)→E (.ref T.NoPlace) none H)
abbrev s_neighbours:Stmt:=top 13
theorem sc_neighbours:FnScope ["web","a"] ["web","a"] (defScope s_neighbours):=FnScope.of (by kernel_rfl)
theorem n_neighbours__web:NmL (defScope s_neighbours) "web":=.of (by kernel_rfl)
theorem n_neighbours__a:NmL (defScope s_neighbours) "a":=.of (by kernel_rfl)
theorem n_neighbours__check_place:NmG (defScope s_neighbours) "check_place":=.of (by kernel_rfl)
theorem n_neighbours__sorted:NmG (defScope s_neighbours) "sorted":=.of (by kernel_rfl)
theorem n_neighbours__other_ends:NmG (defScope s_neighbours) "other_ends":=.of (by kernel_rfl)

theorem ok_neighbours (T:Txt K mg) (hq:Quiet (CXe P w)) {f:Addr} {fd:FuncData} (D:Df K mg "neighbours" s_neighbours ["web","a"] f fd) {f_check_place:Addr} {fd_check_place:FuncData} (D_check_place:Df K mg "check_place" s_check_place ["web","number"] f_check_place fd_check_place) (G_check_place:FnOk P w K mg base (CXe P w) 2 f_check_place fd_check_place ["web","number"] (sp_check_place T)) {f_other_ends:Addr} {fd_other_ends:FuncData} (D_other_ends:Df K mg "other_ends" s_other_ends ["roads","place"] f_other_ends fd_other_ends) (G_other_ends:FnOk P w K mg base (CXe P w) 1 f_other_ends fd_other_ends ["roads","place"] (sp_other_ends T)):FnOk P w K mg base (CXe P w) 3 f fd ["web","a"] (sp_neighbours T):=by
 refine D.F.okX sc_neighbours (fun vs H Q E h=>?_) (fun cdv A outer s H vs Q E hr h=>?_)
 · obtain ⟨p,t,m,ps,rs,a,rfl,_⟩:=h
   rfl
 · obtain ⟨p,t,m,ps,rs,a,rfl,W,k,e⟩:=h
   obtain ⟨dx,ob⟩:=W.ob
   refine ⟨_,(pss_cons (ps_expr (pe_call G_check_place (hr.mono (by decide)) n_neighbours__check_place.g D_check_place.m D_check_place.F.kp D_check_place.b .nil passX (pa_cons (pvl 0 n_neighbours__web) (pa_cons (pvl 1 n_neighbours__a) pa_nil)) (hdb:=n_neighbours__check_place.d))) (pss_one (ps_ret (pe_callB call_sorted n_neighbours__sorted.g T.sorted pb_sorted (pa_cons (pe_call G_other_ends (hr.mono (by decide)) n_neighbours__other_ends.g D_other_ends.m D_other_ends.F.kp D_other_ends.b .nil passX (pa_cons (pe_fld  (pvl 0 n_neighbours__web) rfl) (pa_cons (pvl 1 n_neighbours__a) pa_nil)) (hdb:=n_neighbours__other_ends.d)) pa_nil) (hn:=n_neighbours__sorted.n) (hdb:=n_neighbours__sorted.d))))),?_⟩
   rw [show L2.start ["web","a"] [V.ref p,V.int a]=[some (V.ref p),some (V.int a)] from rfl]
   walk_at "rd"
   refine ⟨p,t,m,ps,rs,a,rfl,W,fun a0 a1=>?_,e⟩
   have hlen:(rs.length:Int)=m - 1:=W.go.len
   have m24:=W.go.m24
   refine ⟨T.Web,dx,_,ob,T.cl_Web,T.n_roads,_,wflds_roads m t,t,ps,rs,a,rfl,SqT.of W.tu,W.ro,by omega,fun l1 H1 n1 s1 e1=>?_⟩
   refine ⟨l1,rfl,ends rs a,SqL.of e1,by have:=ends_len rs a; omega,fun l2 zs n2 pz sz=>?_⟩
   rw [nbrs_eq W.go a0 a1 pz sz]
   exact k l2 _ a0 a1 (s1.free n2) (s1.trans (Same.new _ n2)) upd_same
/-! #### kids -/
def sp_kids (T:Txt K mg):Sp:=fun vs H Q _=>∃ (p t:Addr) (m:Int) (ps:List Addr) (rs:List Road) (a:Int) (fv:V),vs=[.ref p,.int a,fv]∧WebAt T.Web H p m t ps rs∧0≤a∧a < m∧(fv=.non∨∃ i,fv=.int i) ∧
 ∀ l H',H l=none→Same H H'→H' l=some (.lst ((kidsOf m rs fv a).map V.int))→Q (.ref l) H'
abbrev s_kids:Stmt:=top 27
theorem sc_kids:FnScope ["web","place","front"] ["web","place","front"] (defScope s_kids):=FnScope.of (by kernel_rfl)
theorem n_kids__web:NmL (defScope s_kids) "web":=.of (by kernel_rfl)
theorem n_kids__place:NmL (defScope s_kids) "place":=.of (by kernel_rfl)
theorem n_kids__front:NmC (defScope s_kids) "front":=.of (by kernel_rfl)
theorem n_kids__neighbours:NmG (defScope s_kids) "neighbours":=.of (by kernel_rfl)

theorem ok_kids (T:Txt K mg) (hq:Quiet (CXe P w)) {f:Addr} {fd:FuncData} (D:Df K mg "kids" s_kids ["web","place","front"] f fd) {f_neighbours:Addr} {fd_neighbours:FuncData} (D_neighbours:Df K mg "neighbours" s_neighbours ["web","a"] f_neighbours fd_neighbours) (G_neighbours:FnOk P w K mg base (CXe P w) 3 f_neighbours fd_neighbours ["web","a"] (sp_neighbours T)):FnOk P w K mg base (CXe P w) 4 f fd ["web","place","front"] (sp_kids T):=by
 refine D.F.okC sc_kids (fun vs H Q E h=>?_) (fun cdv A outer s H vs Q E hr h=>?_)
 · obtain ⟨p,t,m,ps,rs,a,fv,rfl,_⟩:=h
   rfl
 · obtain ⟨p,t,m,ps,rs,a,fv,rfl,W,a0,a1,hf,k⟩:=h
   have m24:=W.go.m24
   refine ⟨_,(pss_one (ps_ret (pe_comp rfl (ct_clos (Nc:=["near","front"]) 1 [2] (by decide +kernel) rfl (by decide +kernel) rfl (by show ∀ (y:Str × NameKind),y∈_→y.2=NameKind.free→(defScope s_kids).names.lookup y.1=some NameKind.cell; decide +kernel) rfl (fun _ h=>cell_has h) (fun i hi=>match i,hi with | 0,_=>⟨"front",2,rfl,rfl,rfl,by decide +kernel⟩ | i + 1,hi=>absurd hi (by show ¬ i + 1 < 1; omega))) (pi_list (pe_call G_neighbours (hr.mono (by decide)) n_kids__neighbours.g D_neighbours.m D_neighbours.F.kp D_neighbours.b .nil (passQ hq) (pa_cons (pvl 0 n_kids__web) (pa_cons (pvl 1 n_kids__place) pa_nil)) (hdb:=n_kids__neighbours.d))) (fun _ _ _ _=>(pg_name (i:=0) (show (["near","front"]:List Str).Nodup from by decide +kernel) rfl (Or.inl rfl))) (fun _ _ _ _=>(pts_one (pt_cmpR op_ne (pv 0) (pv 1) (nomark _)))) (fun _ _ _ _=>(pv 0))))),?_⟩
   rw [show L2.start ["web","place","front"] [V.ref p,V.int a,fv]=[some (V.ref p),some (V.int a),some fv] from rfl]
   walk_at "rd"
   have nl:(nbrs m rs a).length≤24:=by
     have:=List.length_filter_le (fun q=>decide (q∈ends rs a)) (below m.toNat)
     rw [below_length] at this
     unfold nbrs
     omega
   refine ⟨p,t,m,ps,rs,a,rfl,W,fun l1 H1 _ _ n1 s1 e1=>⟨l1,rfl,⟨_,SqL.of e1⟩,fun l2 n2=>?_⟩,fun z=>absurd ⟨a0,a1⟩ z⟩
   have n20:H l2=none:=s1.free n2
   refine comp_any (c:=true) (K:=K) (a:=l1) (xs:=(nbrs m rs a).map V.int) (fun j ys σ H2=>Same H1 H2∧H2 l2=some (.lst ys)∧ys=(((nbrs m rs a).take j).filter fun v=>decide (V.int v≠fv)).map V.int∧∃ v,σ=[v,some fv]) ⟨Same.new _ n2,upd_same,rfl,_,rfl⟩ (fun j ys σ H2 _ z=>SqL.of (z.1 _ _ e1)) ?_ ?_
   · rintro j xj ys σ H2 N hN hj ⟨s2,h2,rfl,v,rfl⟩
     rw [List.getElem?_map] at hj
     obtain ⟨b,hb,rfl⟩:=Option.map_eq_some_iff.mp hj
     have et:(nbrs m rs a).take (j + 1)=(nbrs m rs a).take j ++ [b]:=by rw [List.take_succ,hb]; rfl
     have ll:(((nbrs m rs a).take j).filter fun v=>decide (V.int v≠fv)).length≤24:=by
       have h1:=List.length_filter_le (fun v=>decide (V.int v≠fv)) ((nbrs m rs a).take j)
       rw [List.length_take] at h1
       omega
     walk_at "rd"
     have sc:scal (V.int b) fv=true:=by
       rcases hf with rfl | ⟨i,rfl⟩ <;> rfl
     refine ⟨sc,?_⟩
     by_cases c:V.int b=fv
     · rw [if_neg (fun z=>z c)]
       refine hN _ _ _ ⟨s2,h2,?_,_,rfl⟩
       rw [et,List.filter_append]
       simp [c]
     · rw [if_pos c]
       refine ⟨h2,small (by rw [List.length_map]; omega),hN _ _ _ ⟨s2.put n2 _,upd_same,?_,_,rfl⟩⟩
       rw [et,List.filter_append]
       simp [c]
   · rintro ys σ H2 ⟨s2,h2,rfl,v,rfl⟩
     rw [List.length_map,List.take_length] at h2
     exact k l2 H2 n20 (s1.trans s2) h2
/-! #### ahead -/
def sp_ahead (T:Txt K mg):Sp:=fun vs H Q E=>∃ (p t:Addr) (m:Int) (ps:List Addr) (rs:List Road) (r:Int),vs=[.ref p,.int r]∧WebAt T.Web H p m t ps rs ∧
 (0≤r→r < m→∃ par dep,Rooted m rs r par dep∧∀ l H',H l=none→Same H H'→H' l=some (.lst (parL m r par))→Q (.ref l) H')∧(¬ (0≤r∧r < m)→E (.ref T.NoPlace) none H)
abbrev s_ahead:Stmt:=top 25
theorem sc_ahead:FnScope ["web","r","nearer","waiting","place","front","kid"] ["web","r"] (defScope s_ahead):=FnScope.of (by kernel_rfl)
theorem n_ahead__web:NmL (defScope s_ahead) "web":=.of (by kernel_rfl)
theorem n_ahead__r:NmL (defScope s_ahead) "r":=.of (by kernel_rfl)
theorem n_ahead__nearer:NmL (defScope s_ahead) "nearer":=.of (by kernel_rfl)
theorem n_ahead__waiting:NmL (defScope s_ahead) "waiting":=.of (by kernel_rfl)
theorem n_ahead__place:NmL (defScope s_ahead) "place":=.of (by kernel_rfl)
theorem n_ahead__front:NmL (defScope s_ahead) "front":=.of (by kernel_rfl)
theorem n_ahead__kid:NmL (defScope s_ahead) "kid":=.of (by kernel_rfl)
theorem n_ahead__check_place:NmG (defScope s_ahead) "check_place":=.of (by kernel_rfl)
theorem n_ahead__kids:NmG (defScope s_ahead) "kids":=.of (by kernel_rfl)

theorem ok_ahead (T:Txt K mg) (hq:Quiet (CXe P w)) {f:Addr} {fd:FuncData} (D:Df K mg "ahead" s_ahead ["web","r"] f fd) {f_check_place:Addr} {fd_check_place:FuncData} (D_check_place:Df K mg "check_place" s_check_place ["web","number"] f_check_place fd_check_place) (G_check_place:FnOk P w K mg base (CXe P w) 2 f_check_place fd_check_place ["web","number"] (sp_check_place T)) {f_kids:Addr} {fd_kids:FuncData} (D_kids:Df K mg "kids" s_kids ["web","place","front"] f_kids fd_kids) (G_kids:FnOk P w K mg base (CXe P w) 4 f_kids fd_kids ["web","place","front"] (sp_kids T)):FnOk P w K mg base (CXe P w) 5 f fd ["web","r"] (sp_ahead T):=by
 refine D.F.okX sc_ahead (fun vs H Q E h=>?_) (fun cdv A outer s H vs Q E hr h=>?_)
 · obtain ⟨p,t,m,ps,rs,r,rfl,_⟩:=h
   rfl
 · obtain ⟨p,t,m,ps,rs,r,rfl,W,k,e⟩:=h
   obtain ⟨dx,ob⟩:=W.ob
   have g:=W.go
   have m24:=g.m24
   refine ⟨_,(pss_cons (ps_expr (pe_call G_check_place (hr.mono (by decide)) n_ahead__check_place.g D_check_place.m D_check_place.F.kp D_check_place.b .nil passX (pa_cons (pvl 0 n_ahead__web) (pa_cons (pvl 1 n_ahead__r) pa_nil)) (hdb:=n_ahead__check_place.d))) (pss_cons (ps_set (i:=2) sc_ahead.nd rfl (Or.inl n_ahead__nearer.l) (pe_op op_rep (pe_lst (pa_cons pe_non pa_nil)) (pe_fld  (pvl 0 n_ahead__web) rfl))) (pss_cons (ps_set (i:=3) sc_ahead.nd rfl (Or.inl n_ahead__waiting.l) (pe_lst (pa_cons (pvl 1 n_ahead__r) pa_nil))) (pss_cons (ps_while PassesOwn.leaving (pt_truth (pvl 3 n_ahead__waiting) (fun _=>rfl)) (pss_cons (ps_set (i:=4) sc_ahead.nd rfl (Or.inl n_ahead__place.l) (pe_bm0 PySem.F.plainAttrs_list PySem.F.slot_list_pop PySem.F.type_list_pop mt_pop (pvl 3 n_ahead__waiting))) (pss_cons (ps_set (i:=5) sc_ahead.nd rfl (Or.inl n_ahead__front.l) (pe_ix ix_list (pvl 2 n_ahead__nearer) (pvl 4 n_ahead__place) (fun _ _=>rfl))) (pss_one (ps_for PassesOwn.leaving rfl (pi_list (pe_call G_kids (hr.mono (by decide)) n_ahead__kids.g D_kids.m D_kids.F.kp D_kids.b .nil passX (pa_cons (pvl 0 n_ahead__web) (pa_cons (pvl 4 n_ahead__place) (pa_cons (pvl 5 n_ahead__front) pa_nil))) (hdb:=n_ahead__kids.d))) (pg_name (i:=6) sc_ahead.nd rfl (Or.inl n_ahead__kid.l)) (pss_cons (ps_asg (pvl 4 n_ahead__place) (pg_sub (pvl 2 n_ahead__nearer) (pvl 6 n_ahead__kid) set_list)) (pss_one (ps_expr (pe_bm PySem.F.plainAttrs_list PySem.F.slot_list_append PySem.F.type_list_append mt_append (pvl 3 n_ahead__waiting) (pa_cons (pvl 6 n_ahead__kid) pa_nil)))))))))) (pss_one (ps_ret (pvl 2 n_ahead__nearer))))))),?_⟩
   rw [show L2.start ["web","r","nearer","waiting","place","front","kid"] [V.ref p,V.int r]=[some (V.ref p),some (V.int r),none,none,none,none,none] from rfl]
   walk_at "rd"
   refine ⟨p,t,m,ps,rs,r,rfl,W,fun r0 r1=>?_,e⟩
   obtain ⟨par,dep,R,k⟩:=k r0 r1
   refine ⟨by decide,fun l1 n1=>?_⟩
   have s1:=Same.new (.lst [V.non]) n1
   refine ⟨T.Web,dx,_,s1 _ _ ob,T.cl_Web,T.n_many,_,rfl,?_⟩
   refine ⟨l1,m,[V.non],rfl,rfl,upd_same,by omega,by omega,smallE (by simp; omega),fun l2 n2=>?_⟩
   have n20:H l2=none:=s1.free n2
   rw [rep_flat,← nl_nil (par:=par)]
   have s2:=s1.trans (Same.new (.lst (nl m par [])) n2)
   refine ⟨smallE (by simp),fun l3 n3=>?_⟩
   have n30:H l3=none:=s2.free n3
   have n32:l3≠l2:=fun z=>by rw [z,upd_same] at n3; cases n3
   have s3:=s2.trans (Same.new (.lst [V.int r]) n3)
   have e2:upd (upd (upd H l1 (.lst [V.non])) l2 (.lst (nl m par []))) l3 (.lst [V.int r]) l2=some (.lst (nl m par [])):=by rw [upd_ne n32.symm,upd_same]
   have e3:upd (upd (upd H l1 (.lst [V.non])) l2 (.lst (nl m par []))) l3 (.lst [V.int r]) l3=some (.lst [V.int r]):=upd_same
   generalize upd (upd (upd H l1 (.lst [V.non])) l2 (.lst (nl m par []))) l3 (.lst [V.int r])=H3 at s3 e2 e3 ⊢
   refine while_H (fun n σ H4=>∃ (ks ws:List Int) (v4 v5 v6:Option V),n=2 * (m.toNat - ks.length) + ws.length∧σ=[some (.ref p),some (.int r),some (.ref l2),some (.ref l3),v4,v5,v6]∧Same H H4∧H4 l2=some (.lst (nl m par ks))∧H4 l3=some (.lst (ws.map V.int))∧AInv m rs r par ks ws) (2 * m.toNat + 1) ⟨[],[r],_,_,_,rfl,rfl,s3,e2,e3,AInv.start⟩ ?_
   rintro n σ H4 NW BB hBB hN hN2 ⟨ks,ws,v4,v5,v6,rfl,rfl,s4,h2,h3,J⟩
   refine hBB _ _ _ ?_
   have kl:=nodup_len (by omega) J.nd J.rng
   walk_at "rd"
   refine ⟨_,.inl ⟨_,SqL.of h3,rfl⟩,?_⟩
   rcases List.eq_nil_or_concat ws with rfl | ⟨ws',q,rfl⟩
   · rw [if_neg (by simp)]
     rw [J.done R] at h2
     exact k l2 H4 n20 s4 h2
   · rw [List.concat_eq_append] at J h3 hN hN2 ⊢
     rw [if_pos (by simp)]
     have hq:q∈ws' ++ [q]:=List.mem_append_right _ (List.mem_singleton.mpr rfl)
     have pr:=J.at_ r0 r1 hq
     have J2:=J.step g R r0 r1 (p:=q) (ws':=ws') (List.perm_append_singleton q ws')
     refine ⟨NW,fun σ' H' z=>?_,?_⟩
     · obtain ⟨m',lt,ks',ws'',a4,a5,a6,e1,e2,e3⟩:=hN2 _ _ z
       exact ⟨m',lt,ks',ws'',e1,a4,a5,a6,e2,e3⟩
     rw [List.map_append,List.map_cons,List.map_nil] at h3
     refine ⟨tyL h3,popR h3 ?_⟩
     have s5:Same H (upd H4 l3 (.lst (ws'.map V.int))):=s4.put n30 _
     have h25:upd H4 l3 (.lst (ws'.map V.int)) l2=some (.lst (nl m par ks)):=by rw [upd_ne n32.symm]; exact h2
     have h35:upd H4 l3 (.lst (ws'.map V.int)) l3=some (.lst (ws'.map V.int)):=upd_same
     generalize upd H4 l3 (.lst (ws'.map V.int))=H5 at s5 h25 h35 ⊢
     refine ixL h25 (atI_int pr.1 (nl_get pr.1 pr.2)) ?_
     rw [J.front hq]
     have hfv:Pb.front r par q=.non∨∃ i,Pb.front r par q=.int i:=by
       unfold Pb.front
       by_cases c:q=r
       · rw [if_pos c]; exact .inl rfl
       · rw [if_neg c]; exact .inr ⟨_,rfl⟩
     have mk:∀ v,v∈kidsOf m rs (Pb.front r par q) q→(0≤v∧v < m)∧v≠r∧par v=q:=fun v=>(mem_kids g R pr.1 pr.2).mp
     refine ⟨p,t,m,ps,rs,q,_,rfl,W.same s5,pr.1,pr.2,hfv,fun l6 H6 n6 s6 e6=>⟨l6,rfl,⟨_,SqL.of e6⟩,?_⟩⟩
     generalize kidsOf m rs (Pb.front r par q) q=kk at mk e6 J2 ⊢
     have n6':H l6=none:=s5.free n6
     have n62:l6≠l2:=fun z=>by rw [z,h25] at n6; cases n6
     have n63:l6≠l3:=fun z=>by rw [z,h35] at n6; cases n6
     have kl2:=nodup_len (by omega) J2.nd J2.rng
     rw [List.length_append] at kl2
     have wl2:=nodup_len (by omega) J2.wnd fun w hw=>J2.at_ r0 r1 hw
     rw [List.length_append] at wl2
     refine for_listH (K:=K) (xs:=kk.map V.int) (fun i σ H7=>∃ v6,σ=[some (.ref p),some (.int r),some (.ref l2),some (.ref l3),some (.int q),some (Pb.front r par q),v6]∧Same H H7∧H7 l6=some (.lst (kk.map V.int))∧H7 l2=some (.lst (nl m par (ks ++ kk.take i)))∧H7 l3=some (.lst ((ws' ++ kk.take i).map V.int))) ⟨_,rfl,s5.trans s6,e6,by rw [List.take_zero,List.append_nil]; exact s6 _ _ h25,by rw [List.take_zero,List.append_nil]; exact s6 _ _ h35⟩ (fun i σ H7 _ z=>by obtain ⟨_,_,_,z,_⟩:=z; exact SqL.of z) ?_ ?_
     · rintro i x σ H7 NI BB hBB hI hi ⟨v6,rfl,s7,e7,h27,h37⟩
       refine hBB _ _ ?_
       rw [List.getElem?_map] at hi
       obtain ⟨v,hv,rfl⟩:=Option.map_eq_some_iff.mp hi
       obtain ⟨vr,_,vp⟩:=mk v (List.mem_of_getElem? hv)
       have et:kk.take (i + 1)=kk.take i ++ [v]:=by rw [List.take_succ,hv]; rfl
       walk_at "rd"
       refine ⟨l2,_,v,v.toNat,rfl,rfl,h27,by unfold ixN; rw [if_pos vr.1,if_pos (by rw [nl_length]; omega)],?_⟩
       rw [← vp,nl_set vr.1 vr.2,vp,List.append_assoc,← et]
       have h38:upd H7 l2 (.lst (nl m par (ks ++ kk.take (i + 1)))) l3=some (.lst ((ws' ++ kk.take i).map V.int)):=by rw [upd_ne n32]; exact h37
       have wlen:(ws' ++ kk.take i).length≤100:=by
         rw [List.length_append,List.length_take]
         omega
       refine ⟨tyL h38,appR h38 (small (by rw [List.length_map]; omega)) (hI _ _ ⟨_,rfl,(s7.put n20 _).put n30 _,?_,?_,?_⟩)⟩
       · rw [upd_ne n63,upd_ne n62]; exact e7
       · rw [upd_ne n32.symm,upd_same]
       · rw [upd_same,et,← List.append_assoc,List.map_append (l₁:=ws' ++ kk.take i)]; rfl
     · rintro BB σ H7 hBB ⟨v6,rfl,s7,e7,h27,h37⟩
       refine hBB _ _ ?_
       rw [List.length_map,List.take_length] at h27 h37
       refine hN _ _ _ ?_ ⟨_,_,_,_,_,rfl,rfl,s7,h27,h37,J2⟩
       rw [List.length_append,List.length_append,List.length_append]
       simp only [List.length_cons,List.length_nil]
       omega
/-! #### down -/
def sp_down (T:Txt K mg):Sp:=fun vs H Q E=>∃ (p t:Addr) (m:Int) (ps:List Addr) (rs:List Road) (r:Int),vs=[.ref p,.int r]∧WebAt T.Web H p m t ps rs ∧
 (0≤r→r < m→∃ par dep,Rooted m rs r par dep∧∀ l H',H l=none→Same H H'→H' l=some (.lst ((preL m rs r par dep r).map V.int))→(preL m rs r par dep r).Nodup→(∀ v,v∈preL m rs r par dep r↔0≤v∧v < m)→Q (.ref l) H')∧(¬ (0≤r∧r < m)→E (.ref T.NoPlace) none H)
abbrev s_down:Stmt:=top 26
theorem sc_down:FnScope ["web","r","nearer","places","waiting","place","kid"] ["web","r"] (defScope s_down):=FnScope.of (by kernel_rfl)
theorem n_down__web:NmL (defScope s_down) "web":=.of (by kernel_rfl)
theorem n_down__r:NmL (defScope s_down) "r":=.of (by kernel_rfl)
theorem n_down__nearer:NmL (defScope s_down) "nearer":=.of (by kernel_rfl)
theorem n_down__places:NmL (defScope s_down) "places":=.of (by kernel_rfl)
theorem n_down__waiting:NmL (defScope s_down) "waiting":=.of (by kernel_rfl)
theorem n_down__place:NmL (defScope s_down) "place":=.of (by kernel_rfl)
theorem n_down__kid:NmL (defScope s_down) "kid":=.of (by kernel_rfl)
theorem n_down__ahead:NmG (defScope s_down) "ahead":=.of (by kernel_rfl)
theorem n_down__reversed:NmG (defScope s_down) "reversed":=.of (by kernel_rfl)
theorem n_down__kids:NmG (defScope s_down) "kids":=.of (by kernel_rfl)

theorem ok_down (T:Txt K mg) (hq:Quiet (CXe P w)) {f:Addr} {fd:FuncData} (D:Df K mg "down" s_down ["web","r"] f fd) {f_ahead:Addr} {fd_ahead:FuncData} (D_ahead:Df K mg "ahead" s_ahead ["web","r"] f_ahead fd_ahead) (G_ahead:FnOk P w K mg base (CXe P w) 5 f_ahead fd_ahead ["web","r"] (sp_ahead T)) {f_kids:Addr} {fd_kids:FuncData} (D_kids:Df K mg "kids" s_kids ["web","place","front"] f_kids fd_kids) (G_kids:FnOk P w K mg base (CXe P w) 4 f_kids fd_kids ["web","place","front"] (sp_kids T)):FnOk P w K mg base (CXe P w) 6 f fd ["web","r"] (sp_down T):=by
 refine D.F.okX sc_down (fun vs H Q E h=>?_) (fun cdv A outer s H vs Q E hr h=>?_)
 · obtain ⟨p,t,m,ps,rs,r,rfl,_⟩:=h
   rfl
 · obtain ⟨p,t,m,ps,rs,r,rfl,W,k,e⟩:=h
   have g:=W.go
   have m24:=g.m24
   refine ⟨_,(pss_cons (ps_set (i:=2) sc_down.nd rfl (Or.inl n_down__nearer.l) (pe_call G_ahead (hr.mono (by decide)) n_down__ahead.g D_ahead.m D_ahead.F.kp D_ahead.b .nil passX (pa_cons (pvl 0 n_down__web) (pa_cons (pvl 1 n_down__r) pa_nil)) (hdb:=n_down__ahead.d))) (pss_cons (ps_set (i:=3) sc_down.nd rfl (Or.inl n_down__places.l) (pe_lst pa_nil)) (pss_cons (ps_set (i:=4) sc_down.nd rfl (Or.inl n_down__waiting.l) (pe_lst (pa_cons (pvl 1 n_down__r) pa_nil))) (pss_cons (ps_while PassesOwn.leaving (pt_truth (pvl 4 n_down__waiting) (fun _=>rfl)) (pss_cons (ps_set (i:=5) sc_down.nd rfl (Or.inl n_down__place.l) (pe_bm0 PySem.F.plainAttrs_list PySem.F.slot_list_pop PySem.F.type_list_pop mt_pop (pvl 4 n_down__waiting))) (pss_cons (ps_expr (pe_bm PySem.F.plainAttrs_list PySem.F.slot_list_append PySem.F.type_list_append mt_append (pvl 3 n_down__places) (pa_cons (pvl 5 n_down__place) pa_nil))) (pss_one (ps_for PassesOwn.leaving rfl (pi_rev n_down__reversed.g T.reversed (pe_call G_kids (hr.mono (by decide)) n_down__kids.g D_kids.m D_kids.F.kp D_kids.b .nil passX (pa_cons (pvl 0 n_down__web) (pa_cons (pvl 5 n_down__place) (pa_cons (pe_ix ix_list (pvl 2 n_down__nearer) (pvl 5 n_down__place) (fun _ _=>rfl)) pa_nil))) (hdb:=n_down__kids.d))) (pg_name (i:=6) sc_down.nd rfl (Or.inl n_down__kid.l)) (pss_one (ps_expr (pe_bm PySem.F.plainAttrs_list PySem.F.slot_list_append PySem.F.type_list_append mt_append (pvl 4 n_down__waiting) (pa_cons (pvl 6 n_down__kid) pa_nil))))))))) (pss_one (ps_ret (pvl 3 n_down__places))))))),?_⟩
   rw [show L2.start ["web","r","nearer","places","waiting","place","kid"] [V.ref p,V.int r]=[some (V.ref p),some (V.int r),none,none,none,none,none] from rfl]
   walk_at "rd"
   refine ⟨p,t,m,ps,rs,r,rfl,W,fun r0 r1=>?_,e⟩
   obtain ⟨par,dep,R,k⟩:=k r0 r1
   refine ⟨par,dep,R,fun l1 H1 n1 s1 e1=>⟨by decide,fun l3 n3=>⟨smallE (by simp),fun l4 n4=>?_⟩⟩⟩
   have n30:H l3=none:=s1.free n3
   have s3:=s1.trans (Same.new (.lst []) n3)
   have n40:H l4=none:=s3.free n4
   have n13:l1≠l3:=fun z=>by rw [← z,e1] at n3; cases n3
   have n34:l3≠l4:=fun z=>by rw [← z,upd_same] at n4; cases n4
   have e13:=Same.new (.lst []) n3 _ _ e1
   have n14:l1≠l4:=fun z=>by rw [← z,e13] at n4; cases n4
   have s4:=s3.trans (Same.new (.lst [V.int r]) n4)
   have e14:=Same.new (.lst [V.int r]) n4 _ _ e13
   have e34:upd (upd H1 l3 (.lst [])) l4 (.lst [V.int r]) l3=some (.lst []):=by rw [upd_ne n34,upd_same]
   have e44:upd (upd H1 l3 (.lst [])) l4 (.lst [V.int r]) l4=some (.lst [V.int r]):=upd_same
   generalize upd (upd H1 l3 (.lst [])) l4 (.lst [V.int r])=H4 at s4 e14 e34 e44 ⊢
   refine while_H (fun n σ H5=>∃ (ks ws pl:List Int) (v5 v6:Option V),n=2 * (m.toNat - ks.length) + ws.length∧σ=[some (.ref p),some (.int r),some (.ref l1),some (.ref l3),some (.ref l4),v5,v6]∧Same H H5∧H5 l1=some (.lst (parL m r par))∧H5 l3=some (.lst (pl.map V.int))∧H5 l4=some (.lst (ws.map V.int))∧AInv m rs r par ks ws∧(pl ++ ws).Perm (r :: ks)∧pl ++ ws.reverse.flatMap (preL m rs r par dep)=preL m rs r par dep r) (2 * m.toNat + 1) ⟨[],[r],[],_,_,rfl,rfl,s4,e14,e34,e44,AInv.start,List.Perm.refl _,by simp⟩ ?_
   rintro n σ H5 NW BB hBB hN hN2 ⟨ks,ws,pl,v5,v6,rfl,rfl,s5,h1,h3,h4,J,pe,ep⟩
   refine hBB _ _ _ ?_
   have rk:∀ w∈r :: ks,0≤w∧w < m:=fun w hw=>by
     rcases List.mem_cons.mp hw with rfl | z
     · exact ⟨r0,r1⟩
     · exact J.rng w z
   have nk:(r :: ks).Nodup:=List.nodup_cons.mpr ⟨J.nr,J.nd⟩
   have kl:=nodup_len (m:=m) (by omega) nk rk
   have kl1:=nodup_len (m:=m) (by omega) J.nd J.rng
   have pl1:=pe.length_eq
   rw [List.length_append] at pl1
   rw [List.length_cons] at kl pl1
   walk_at "rd"
   refine ⟨_,.inl ⟨_,SqL.of h4,rfl⟩,?_⟩
   rcases List.eq_nil_or_concat ws with rfl | ⟨ws',q,rfl⟩
   · rw [if_neg (by simp)]
     rw [List.reverse_nil,List.flatMap_nil,List.append_nil] at ep
     rw [List.append_nil] at pe
     subst ep
     refine k l3 H5 n30 s5 h3 (pe.nodup_iff.mpr nk) fun v=>⟨fun z=>rk v (pe.mem_iff.mp z),fun z=>pe.mem_iff.mpr ?_⟩
     by_cases c:v=r
     · rw [c]; exact List.mem_cons_self
     · exact List.mem_cons_of_mem _ (J.all R v z.1 z.2 c)
   · rw [List.concat_eq_append] at J h4 hN hN2 pe ep pl1 ⊢
     rw [if_pos (by simp)]
     have hq:q∈ws' ++ [q]:=List.mem_append_right _ (List.mem_singleton.mpr rfl)
     have pr:=J.at_ r0 r1 hq
     have J2:=J.step g R r0 r1 (p:=q) (ws':=ws') (List.perm_append_singleton q ws')
     refine ⟨NW,fun σ' H' z=>?_,?_⟩
     · obtain ⟨m',lt,ks',ws'',pl',a5,a6,z1,z2⟩:=hN2 _ _ z
       exact ⟨m',lt,ks',ws'',z1,pl',a5,a6,z2⟩
     rw [List.map_append,List.map_cons,List.map_nil] at h4
     refine ⟨tyL h4,popR h4 ?_⟩
     have s6:Same H (upd H5 l4 (.lst (ws'.map V.int))):=s5.put n40 _
     have h36:upd H5 l4 (.lst (ws'.map V.int)) l3=some (.lst (pl.map V.int)):=by rw [upd_ne n34]; exact h3
     have h16:upd H5 l4 (.lst (ws'.map V.int)) l1=some (.lst (parL m r par)):=by rw [upd_ne n14]; exact h1
     have h46:upd H5 l4 (.lst (ws'.map V.int)) l4=some (.lst (ws'.map V.int)):=upd_same
     generalize upd H5 l4 (.lst (ws'.map V.int))=H6 at s6 h36 h16 h46 ⊢
     refine ⟨tyL h36,appR h36 (small (by rw [List.length_map]; omega)) ?_⟩
     have s7:Same H (upd H6 l3 (.lst (pl.map V.int ++ [V.int q]))):=s6.put n30 _
     have h37:upd H6 l3 (.lst (pl.map V.int ++ [V.int q])) l3=some (.lst ((pl ++ [q]).map V.int)):=by rw [upd_same,List.map_append]; rfl
     have h17:upd H6 l3 (.lst (pl.map V.int ++ [V.int q])) l1=some (.lst (parL m r par)):=by rw [upd_ne n13]; exact h16
     have h47:upd H6 l3 (.lst (pl.map V.int ++ [V.int q])) l4=some (.lst (ws'.map V.int)):=by rw [upd_ne n34.symm]; exact h46
     generalize upd H6 l3 (.lst (pl.map V.int ++ [V.int q]))=H7 at s7 h37 h17 h47 ⊢
     refine ixL h17 (atI_int pr.1 (parL_get pr.1 pr.2)) ?_
     have hfv:Pb.front r par q=.non∨∃ i,Pb.front r par q=.int i:=by
       unfold Pb.front
       by_cases c:q=r
       · rw [if_pos c]; exact .inl rfl
       · rw [if_neg c]; exact .inr ⟨_,rfl⟩
     have pq:=preL_step g R pr.1 pr.2
     refine ⟨p,t,m,ps,rs,q,_,rfl,W.same s7,pr.1,pr.2,hfv,fun l8 H8 n8 s8 e8=>⟨l8,rfl,_,SqL.of e8,?_⟩⟩
     generalize kidsOf m rs (Pb.front r par q) q=kk at e8 J2 pq ⊢
     have n81:l1≠l8:=fun z=>by rw [← z,h17] at n8; cases n8
     have n83:l3≠l8:=fun z=>by rw [← z,h37] at n8; cases n8
     have n84:l4≠l8:=fun z=>by rw [← z,h47] at n8; cases n8
     have kl2:=nodup_len (m:=m) (by omega) J2.nd J2.rng
     rw [List.length_append] at kl2
     have wl2:=nodup_len (m:=m) (by omega) J2.wnd fun w hw=>J2.at_ r0 r1 hw
     rw [List.length_append] at wl2
     refine for_revN (K:=K) (xs:=kk.map V.int) (fun i σ H9=>∃ v6,σ=[some (.ref p),some (.int r),some (.ref l1),some (.ref l3),some (.ref l4),some (.int q),v6]∧Same H H9∧H9 l8=some (.lst (kk.map V.int))∧H9 l1=some (.lst (parL m r par))∧H9 l3=some (.lst ((pl ++ [q]).map V.int))∧H9 l4=some (.lst ((ws' ++ kk.reverse.take i).map V.int))) ⟨_,rfl,s7.trans s8,e8,s8 _ _ h17,s8 _ _ h37,by rw [List.take_zero,List.append_nil]; exact s8 _ _ h47⟩ (fun i σ H9 _ z=>by obtain ⟨_,_,_,z,_⟩:=z; exact SqL.of z) ?_ ?_
     · rintro i x σ H9 NI hI hi ⟨v6,rfl,s9,e9,h19,h39,h49⟩
       rw [← List.map_reverse,List.getElem?_map] at hi
       obtain ⟨v,hv,rfl⟩:=Option.map_eq_some_iff.mp hi
       have et:kk.reverse.take (i + 1)=kk.reverse.take i ++ [v]:=by rw [List.take_succ,hv]; rfl
       have wlen:(ws' ++ kk.reverse.take i).length≤100:=by
         rw [List.length_append,List.length_take,List.length_reverse]
         omega
       walk_at "rd"
       refine ⟨tyL h49,appR h49 (small (by rw [List.length_map]; omega)) (hI _ _ ⟨_,rfl,s9.put n40 _,?_,?_,?_,?_⟩)⟩
       · rw [upd_ne n84.symm]; exact e9
       · rw [upd_ne n14]; exact h19
       · rw [upd_ne n34]; exact h39
       · rw [upd_same,et,← List.append_assoc,List.map_append (l₁:=ws' ++ kk.reverse.take i)]; rfl
     · rintro σ H9 ⟨v6,rfl,s9,e9,h19,h39,h49⟩
       rw [List.length_map,show kk.length=kk.reverse.length by rw [List.length_reverse],List.take_length] at h49
       refine hN _ _ _ ?_ ⟨ks ++ kk,ws' ++ kk.reverse,pl ++ [q],_,_,rfl,rfl,s9,h19,h39,h49,J2.perm (List.Perm.append_left _ kk.reverse_perm.symm),?_,?_⟩
       · rw [List.length_append,List.length_append,List.length_append,List.length_reverse]
         simp only [List.length_cons,List.length_nil]
         omega
       · have p1:(pl ++ [q] ++ (ws' ++ kk.reverse)).Perm (pl ++ (ws' ++ [q]) ++ kk):=by
           rw [List.append_assoc,List.append_assoc]
           refine List.Perm.append_left _ ?_
           rw [← List.append_assoc]
           exact List.Perm.append (List.perm_append_comm) kk.reverse_perm
         exact p1.trans (List.Perm.append_right _ pe)
       · rw [← ep,List.reverse_append,List.reverse_append,List.reverse_reverse,List.reverse_singleton,List.singleton_append,List.flatMap_cons,pq,List.flatMap_append]
         simp
/-! #### inward -/
/-- the places of a row with the ones ahead of them,from its end -/
def vPair (par:Int→Int) (v:Int):List V:=[.int v,.int (par v)]
abbrev PairsAt (H:Hp) (par:Int→Int):List Addr→List Int→Prop:=Paired fun q v=>H q=some (.tup (vPair par v))
theorem PairsAt.same {H H':Hp} {par:Int→Int} {qs:List Addr} {vs:List Int} (e:Same H H') (h:PairsAt H par qs vs):PairsAt H' par qs vs:=Paired.imp' (fun q v x=>e q _ x) h
theorem PairsAt.get {H:Hp} {par:Int→Int}:∀ {ps:List Addr} {rs:List Int} {i:Nat} {x:V},PairsAt H par ps rs→(ps.map V.ref)[i]?=some x→∃ p r,x=.ref p∧ps[i]?=some p∧rs[i]?=some r∧H p=some (.tup (vPair par r))
 | _,_,i,x,.nil,e=>by simp at e
 | _,_,0,x,.cons (a:=p) (b:=r) h hs,e=>⟨p,r,by simpa using e.symm,by simp,by simp,h⟩
 | a :: l1,_,i + 1,x,.cons h hs,e=>by
   have e':(List.map V.ref l1)[i]?=some x:=by simpa using e
   obtain ⟨p,r,h1,h2,h3,h4⟩:=PairsAt.get hs e'
   exact ⟨p,r,h1,by simpa using h2,by simpa using h3,h4⟩
theorem PairsAt.snoc {H:Hp} {par:Int→Int} {q:Addr} {v:Int} (e:H q=some (.tup (vPair par v))):∀ {qs:List Addr} {vs:List Int},PairsAt H par qs vs→PairsAt H par (qs ++ [q]) (vs ++ [v])
 | _,_,.nil=>.cons e .nil
 | _,_,.cons x xs=>.cons x (PairsAt.snoc e xs)
def sp_inward (T:Txt K mg):Sp:=fun vs H Q E=>∃ (p t:Addr) (m:Int) (ps:List Addr) (rs:List Road) (r:Int),vs=[.ref p,.int r]∧WebAt T.Web H p m t ps rs ∧
 (0≤r→r < m→∃ par dep,Rooted m rs r par dep∧∀ l qs tl H',preL m rs r par dep r=r :: tl→H l=none→Same H H'→H' l=some (.lst (qs.map V.ref))→PairsAt H' par qs tl.reverse→Order m r par tl→Q (.ref l) H')∧(¬ (0≤r∧r < m)→E (.ref T.NoPlace) none H)
abbrev s_inward:Stmt:=top 28
theorem sc_inward:FnScope ["web","r","nearer"] ["web","r"] (defScope s_inward):=FnScope.of (by kernel_rfl)
theorem n_inward__web:NmL (defScope s_inward) "web":=.of (by kernel_rfl)
theorem n_inward__r:NmC (defScope s_inward) "r":=.of (by kernel_rfl)
theorem n_inward__nearer:NmC (defScope s_inward) "nearer":=.of (by kernel_rfl)
theorem n_inward__ahead:NmG (defScope s_inward) "ahead":=.of (by kernel_rfl)
theorem n_inward__reversed:NmG (defScope s_inward) "reversed":=.of (by kernel_rfl)
theorem n_inward__down:NmG (defScope s_inward) "down":=.of (by kernel_rfl)

theorem ok_inward (T:Txt K mg) (hq:Quiet (CXe P w)) {f:Addr} {fd:FuncData} (D:Df K mg "inward" s_inward ["web","r"] f fd) {f_ahead:Addr} {fd_ahead:FuncData} (D_ahead:Df K mg "ahead" s_ahead ["web","r"] f_ahead fd_ahead) (G_ahead:FnOk P w K mg base (CXe P w) 5 f_ahead fd_ahead ["web","r"] (sp_ahead T)) {f_down:Addr} {fd_down:FuncData} (D_down:Df K mg "down" s_down ["web","r"] f_down fd_down) (G_down:FnOk P w K mg base (CXe P w) 6 f_down fd_down ["web","r"] (sp_down T)):FnOk P w K mg base (CXe P w) 7 f fd ["web","r"] (sp_inward T):=by
 refine D.F.okX sc_inward (fun vs H Q E h=>?_) (fun cdv A outer s H vs Q E hr h=>?_)
 · obtain ⟨p,t,m,ps,rs,r,rfl,_⟩:=h
   rfl
 · obtain ⟨p,t,m,ps,rs,r,rfl,W,k,e⟩:=h
   have g:=W.go
   have m24:=g.m24
   refine ⟨_,(pss_cons (ps_set (i:=2) sc_inward.nd rfl (Or.inr n_inward__nearer.l) (pe_call G_ahead (hr.mono (by decide)) n_inward__ahead.g D_ahead.m D_ahead.F.kp D_ahead.b .nil passX (pa_cons (pvl 0 n_inward__web) (pa_cons (pvc 1 n_inward__r) pa_nil)) (hdb:=n_inward__ahead.d))) (pss_one (ps_ret (pe_comp rfl (ct_clos (Nc:=["place","nearer","r"]) 1 [2,1] (by decide +kernel) rfl (by decide +kernel) rfl (by show ∀ (y:Str × NameKind),y∈_→y.2=NameKind.free→(defScope s_inward).names.lookup y.1=some NameKind.cell; decide +kernel) rfl (fun _ h=>cell_has h) (fun i hi=>match i,hi with | 0,_=>⟨"nearer",2,rfl,rfl,rfl,by decide +kernel⟩ | 1,_=>⟨"r",1,rfl,rfl,rfl,by decide +kernel⟩ | i + 2,hi=>absurd hi (by show ¬ i + 2 < 2; omega))) (pi_rev n_inward__reversed.g T.reversed (pe_call G_down (hr.mono (by decide)) n_inward__down.g D_down.m D_down.F.kp D_down.b .nil passX (pa_cons (pvl 0 n_inward__web) (pa_cons (pvc 1 n_inward__r) pa_nil)) (hdb:=n_inward__down.d))) (fun _ _ _ _=>(pg_name (i:=0) (show (["place","nearer","r"]:List Str).Nodup from by decide +kernel) rfl (Or.inl rfl))) (fun _ _ _ _=>(pts_one (pt_cmpR op_ne (pv 0) (pv 2) (nomark _)))) (fun _ _ _ _=>(pe_tup (pa_cons (pv 0) (pa_cons (pe_ix (ix_listK K rfl) (pv 1) (pv 0) (fun _ _=>rfl)) pa_nil)))))))),?_⟩
   rw [show L2.start ["web","r","nearer"] [V.ref p,V.int r]=[some (V.ref p),some (V.int r),none] from rfl]
   walk_at "rd"
   refine ex6 p t m ps rs r ?_
   refine an4 rfl W (fun r0 r1=>?_) e
   obtain ⟨par,dep,R,k⟩:=k r0 r1
   refine ⟨par,dep,R,fun l1 H1 n1 s1 e1=>?_⟩
   refine ex6 p t m ps rs r ?_
   refine an4 rfl (W.same s1) (fun _ _=>⟨par,dep,R,fun l2 H2 n2 s2 e2 nd al=>?_⟩) (fun z=>absurd ⟨r0,r1⟩ z)
   obtain ⟨tl,et,O⟩:=preL_order g R r0 r1 nd al
   have ll:=preL_len g R r0 r1
   rw [et] at e2 ll
   rw [List.length_cons] at ll
   refine ⟨l2,rfl,_,SqL.of e2,fun pc npc=>?_⟩
   have e12:=s2 _ _ e1
   have s12:=s1.trans s2
   have npc0:=s12.free npc
   refine comp_rev (K:=K) (xs:=(r :: tl).map V.int) (fun i zs σ H3=>Same H2 H3∧H3 pc=some (.lst zs)∧(∃ qs:List Addr,zs=qs.map V.ref∧PairsAt H3 par qs (tl.reverse.take i))∧∃ v,σ=[v,some (V.ref l1),some (V.int r)]) ⟨Same.new _ npc,upd_same,⟨[],rfl,.nil⟩,_,rfl⟩ (fun i zs σ H3 _ z=>SqL.of (z.1 _ _ e2)) ?_ ?_
   · rintro i x zs σ H3 N hN hx ⟨s3,e3,⟨qs,rfl,pa⟩,v,rfl⟩
     rw [← List.map_reverse,List.reverse_cons,List.getElem?_map] at hx
     obtain ⟨y,gy,rfl⟩:=Option.map_eq_some_iff.mp hx
     have il:=(List.getElem?_eq_some_iff.mp gy).1
     rw [List.length_append,List.length_reverse] at il
     have ql:qs.length=(tl.reverse.take i).length:=Paired.length pa
     rw [List.length_take,List.length_reverse] at ql
     walk_at "rd"
     by_cases c:i < tl.length
     · rw [List.getElem?_append_left (by rw [List.length_reverse]; exact c)] at gy
       have ym:y∈tl:=List.mem_reverse.mp (List.mem_of_getElem? gy)
       have yr:=O.rng y ym
       rw [if_pos (O.ne ym)]
       have gp:atI (parL m r par) y=some (V.int (par y)):=by
         have ef:Pb.front r par y=V.int (par y):=by unfold Pb.front; rw [if_neg (O.ne ym)]
         rw [← ef]; exact atI_int yr.1 (parL_get yr.1 yr.2)
       refine ixL (s3 _ _ e12) gp ⟨smallE (by simp),fun q nq=>?_⟩
       have s4:=Same.new (.tup [V.int y,V.int (par y)]) nq
       have nqp:q≠pc:=fun z=>by rw [z,e3] at nq; cases nq
       refine ⟨s4 _ _ e3,small (by rw [List.length_map]; omega),hN _ _ _ ⟨(s3.trans s4).put npc _,upd_same,⟨qs ++ [q],by rw [List.map_append]; rfl,?_⟩,_,rfl⟩⟩
       rw [List.take_succ,gy]
       refine PairsAt.snoc (by rw [upd_ne nqp,upd_same]; rfl) ?_
       exact Paired.imp' (fun a b h=>by
         rw [upd_ne (ne_of h e3 (by intro z; cases z)),upd_ne (ne_of_none h nq)]; exact h) pa
     · have ei:i=tl.reverse.length:=by rw [List.length_reverse]; simp at il; omega
       rw [ei,List.getElem?_append_right (Nat.le_refl _),Nat.sub_self] at gy
       cases gy
       rw [if_neg (fun z=>z rfl)]
       refine hN _ _ _ ⟨s3,e3,⟨qs,rfl,?_⟩,_,rfl⟩
       rw [List.take_of_length_le (by omega)] at pa ⊢
       exact pa
   · rintro zs σ H3 ⟨s3,e3,⟨qs,rfl,pa⟩,v,rfl⟩
     rw [List.take_of_length_le (by rw [List.length_map,List.length_reverse,List.length_cons]; omega)] at pa
     exact k pc qs tl H3 et npc0 (s12.trans s3) e3 pa O
/-! #### is_filled -/
def filled (m:Int) (xs:List Int):Bool:=decide ((xs.length:Int)=m) && xs.all fun x=>decide (0≤x)
theorem filled_of {m:Int} {xs:List Int} (h:(xs.length:Int)=m) (h0:∀ x∈xs,0≤x):filled m xs=true:=by
 unfold filled
 rw [decide_eq_true h,Bool.true_and,List.all_eq_true]
 exact fun x hx=>decide_eq_true (h0 x hx)
theorem filled_len {m:Int} {xs:List Int} (h:filled m xs=true):(xs.length:Int)=m:=by
 unfold filled at h
 rw [Bool.and_eq_true] at h
 exact of_decide_eq_true h.1
theorem filled_nn {m:Int} {xs:List Int} (h:filled m xs=true):∀ x∈xs,0≤x:=by
 unfold filled at h
 rw [Bool.and_eq_true,List.all_eq_true] at h
 exact fun x hx=>of_decide_eq_true (h.2 x hx)
def sp_is_filled (T:Txt K mg):Sp:=fun vs H Q _=>∃ (p a t:Addr) (c:Bool) (m:Int) (ps:List Addr) (rs:List Road) (xs:List Int),vs=[.ref p,.ref a]∧WebAt T.Web H p m t ps rs∧SqX K c H a (xs.map V.int)∧xs.length≤1000∧∀ H',Same H H'→Q (.bl (filled m xs)) H'
abbrev s_is_filled:Stmt:=top 23
theorem sc_is_filled:FnScope ["web","numbers"] ["web","numbers"] (defScope s_is_filled):=FnScope.of (by kernel_rfl)
theorem n_is_filled__web:NmL (defScope s_is_filled) "web":=.of (by kernel_rfl)
theorem n_is_filled__numbers:NmL (defScope s_is_filled) "numbers":=.of (by kernel_rfl)
theorem n_is_filled__len:NmG (defScope s_is_filled) "len":=.of (by kernel_rfl)
theorem n_is_filled__all:NmG (defScope s_is_filled) "all":=.of (by kernel_rfl)

theorem ok_is_filled (T:Txt K mg) (hq:Quiet (CXe P w)) {f:Addr} {fd:FuncData} (D:Df K mg "is_filled" s_is_filled ["web","numbers"] f fd):FnOk P w K mg base (CXe P w) 1 f fd ["web","numbers"] (sp_is_filled T):=by
 refine D.F.okC sc_is_filled (fun vs H Q E h=>?_) (fun cdv A outer s H vs Q E hr h=>?_)
 · obtain ⟨p,a,t,c,m,ps,rs,xs,rfl,_⟩:=h
   rfl
 · obtain ⟨p,a,t,c,m,ps,rs,xs,rfl,W,ha,hz,k⟩:=h
   refine ⟨_,(pss_one (ps_ret (pe_and (pe_cmpR op_eq (pe_callB call_len_seq n_is_filled__len.g T.len pb_len (pa_cons (pvl 1 n_is_filled__numbers) pa_nil) (hn:=n_is_filled__len.n) (hdb:=n_is_filled__len.d)) (pe_fld  (pvl 0 n_is_filled__web) rfl) (nomark _)) (pe_one (pe_callB (call_all rfl) n_is_filled__all.g T.all pb_all (pa_cons (pe_comp rfl (ct_plain (Nc:=["number"]) 1 (by decide +kernel) (by decide +kernel) rfl (by decide +kernel) rfl) (pi_any c (pvl 1 n_is_filled__numbers)) (fun _ _ _ _=>(pg_name (i:=0) (show (["number"]:List Str).Nodup from by decide +kernel) rfl (Or.inl rfl))) (fun _ _ _ _=>pts_nil) (fun _ _ _ _=>(pe_cmpR op_ge (pv 0) pe_int (nomark _)))) pa_nil) (hn:=n_is_filled__all.n) (hdb:=n_is_filled__all.d)))))),?_⟩
   rw [show L2.start ["web","numbers"] [V.ref p,V.ref a]=[some (V.ref p),some (V.ref a)] from rfl]
   walk_at "rd"
   obtain ⟨dx,ob⟩:=W.ob
   have ha':SqL K H a (xs.map V.int)∨SqT K H a (xs.map V.int):=by
     cases c
     · exact .inr ha
     · exact .inl ha
   refine ⟨_,ha',T.Web,dx,_,ob,T.cl_Web,T.n_many,_,wflds_many m t,rfl,?_⟩
   rw [List.length_map]
   by_cases hm:(xs.length:Int)=m
   · rw [if_pos (by rw [hm])]
     refine ⟨⟨_,ha⟩,fun l nl=>?_⟩
     refine comp_any (K:=K) (c:=c) (xs:=xs.map V.int) (fun i bs σ H2=>Same H H2∧H2 l=some (.lst bs)∧bs=((xs.take i).map fun x=>decide (0≤x)).map V.bl∧∃ v,σ=[v]) ⟨Same.new _ nl,upd_same,rfl,_,rfl⟩ (fun i bs σ H2 _ z=>Same.sqX z.1 ha) ?_ ?_
     · rintro i x bs σ H2 N hN hx ⟨s2,e2,rfl,v,rfl⟩
       rw [List.getElem?_map] at hx
       obtain ⟨y,gy,rfl⟩:=Option.map_eq_some_iff.mp hx
       walk_at "rd"
       refine ⟨e2,small (by rw [List.length_map,List.length_map,List.length_take]; omega),hN _ _ _ ⟨s2.put nl _,upd_same,?_,_,rfl⟩⟩
       rw [List.take_succ,gy,List.map_append,List.map_append]
       rfl
     · rintro bs σ H2 ⟨s2,e2,rfl,v,rfl⟩
       refine ⟨l,rfl,_,SqL.of e2,?_⟩
       have e:(((xs.take (xs.map V.int).length).map fun x=>decide (0≤x)).all id)=filled m xs:=by
         rw [List.length_map,List.take_length,List.all_map]
         unfold filled
         rw [decide_eq_true hm,Bool.true_and]
         rfl
       rw [e]
       exact k _ s2
   · rw [if_neg (fun z=>hm (by injection z))]
     have e:filled m xs=false:=by
       unfold filled
       rw [decide_eq_false hm,Bool.false_and]
     rw [e] at k
     exact k H (Same.refl _)
/-! #### laying_of -/
def sp_laying_of (T:Txt K mg):Sp:=fun vs H Q E=>∃ (p a t:Addr) (c:Bool) (m:Int) (ps:List Addr) (rs:List Road) (xs:List Int),vs=[.ref p,.ref a]∧WebAt T.Web H p m t ps rs∧SqX K c H a (xs.map V.int)∧xs.length≤1000 ∧
 (filled m xs=true→∀ l H',Same H H'→(H' l=some (.tup (xs.map V.int))∨(c=false∧l=a))→SqT K H' l (xs.map V.int)→Q (.ref l) H')∧(filled m xs=false→∀ H',Same H H'→E (.ref T.BadLaying) none H')
abbrev s_laying_of:Stmt:=top 22
theorem sc_laying_of:FnScope ["web","numbers"] ["web","numbers"] (defScope s_laying_of):=FnScope.of (by kernel_rfl)
theorem n_laying_of__web:NmL (defScope s_laying_of) "web":=.of (by kernel_rfl)
theorem n_laying_of__numbers:NmL (defScope s_laying_of) "numbers":=.of (by kernel_rfl)
theorem n_laying_of__is_filled:NmG (defScope s_laying_of) "is_filled":=.of (by kernel_rfl)
theorem n_laying_of__BadLaying:NmG (defScope s_laying_of) "BadLaying":=.of (by kernel_rfl)
theorem n_laying_of__tuple:NmG (defScope s_laying_of) "tuple":=.of (by kernel_rfl)

theorem ok_laying_of (T:Txt K mg) (hq:Quiet (CXe P w)) {f:Addr} {fd:FuncData} (D:Df K mg "laying_of" s_laying_of ["web","numbers"] f fd) {f_is_filled:Addr} {fd_is_filled:FuncData} (D_is_filled:Df K mg "is_filled" s_is_filled ["web","numbers"] f_is_filled fd_is_filled) (G_is_filled:FnOk P w K mg base (CXe P w) 1 f_is_filled fd_is_filled ["web","numbers"] (sp_is_filled T)):FnOk P w K mg base (CXe P w) 2 f fd ["web","numbers"] (sp_laying_of T):=by
 refine D.F.okX sc_laying_of (fun vs H Q E h=>?_) (fun cdv A outer s H vs Q E hr h=>?_)
 · obtain ⟨p,a,t,c,m,ps,rs,xs,rfl,_⟩:=h
   rfl
 · obtain ⟨p,a,t,c,m,ps,rs,xs,rfl,W,ha,hz,k,e⟩:=h
   refine ⟨_,(pss_cons (ps_if (pt_not (pt_val (pe_call G_is_filled (hr.mono (by decide)) n_laying_of__is_filled.g D_is_filled.m D_is_filled.F.kp D_is_filled.b .nil passX (pa_cons (pvl 0 n_laying_of__web) (pa_cons (pvl 1 n_laying_of__numbers) pa_nil)) (hdb:=n_laying_of__is_filled.d)))) (pss_one (ps_raise T.e_BadLaying rfl raisesX n_laying_of__BadLaying.g T.m_BadLaying (pa_cons pe_str pa_nil) (hdb:=n_laying_of__BadLaying.d))) pss_nil) (pss_one (ps_ret (pe_callTy call_tuple_of n_laying_of__tuple.g T.tuple pb_tuple (pa_cons (pvl 1 n_laying_of__numbers) pa_nil) (hn:=n_laying_of__tuple.n) (hdb:=n_laying_of__tuple.d))))),?_⟩
   rw [show L2.start ["web","numbers"] [V.ref p,V.ref a]=[some (V.ref p),some (V.ref a)] from rfl]
   walk_at "rd"
   refine ⟨p,a,t,c,m,ps,rs,xs,rfl,W,ha,hz,fun H1 s1=>⟨_,rfl,?_⟩⟩
   by_cases z:filled m xs=false
   · rw [if_pos z]
     exact ⟨by decide,e z H1 s1⟩
   · rw [if_neg z]
     have z':filled m xs=true:=by simpa using z
     cases c
     · exact ⟨_,.inr ⟨Same.sqX (c:=false) s1 ha,k z' a H1 s1 (.inr ⟨rfl,rfl⟩) (Same.sqX (c:=false) s1 ha)⟩⟩
     · exact ⟨_,.inl ⟨Same.sqX (c:=true) s1 ha,fun l nl=>k z' l _ (s1.trans (Same.new _ nl)) (.inl upd_same) (SqT.of upd_same)⟩⟩
/-! #### wish_of -/
def sp_wish_of (T:Txt K mg):Sp:=fun vs H Q E=>∃ (p a t:Addr) (c:Bool) (m:Int) (ps:List Addr) (rs:List Road) (xs:List Int),vs=[.ref p,.ref a]∧WebAt T.Web H p m t ps rs∧SqX K c H a (xs.map V.int)∧xs.length≤1000 ∧
 (filled m xs=true→∀ l H',Same H H'→SqT K H' l (xs.map V.int)→Q (.ref l) H')∧(filled m xs=false→∀ H',Same H H'→E (.ref T.BadWish) none H')
abbrev s_wish_of:Stmt:=top 30
theorem sc_wish_of:FnScope ["web","numbers"] ["web","numbers"] (defScope s_wish_of):=FnScope.of (by kernel_rfl)
theorem n_wish_of__web:NmL (defScope s_wish_of) "web":=.of (by kernel_rfl)
theorem n_wish_of__numbers:NmL (defScope s_wish_of) "numbers":=.of (by kernel_rfl)
theorem n_wish_of__is_filled:NmG (defScope s_wish_of) "is_filled":=.of (by kernel_rfl)
theorem n_wish_of__BadWish:NmG (defScope s_wish_of) "BadWish":=.of (by kernel_rfl)
theorem n_wish_of__tuple:NmG (defScope s_wish_of) "tuple":=.of (by kernel_rfl)

theorem ok_wish_of (T:Txt K mg) (hq:Quiet (CXe P w)) {f:Addr} {fd:FuncData} (D:Df K mg "wish_of" s_wish_of ["web","numbers"] f fd) {f_is_filled:Addr} {fd_is_filled:FuncData} (D_is_filled:Df K mg "is_filled" s_is_filled ["web","numbers"] f_is_filled fd_is_filled) (G_is_filled:FnOk P w K mg base (CXe P w) 1 f_is_filled fd_is_filled ["web","numbers"] (sp_is_filled T)):FnOk P w K mg base (CXe P w) 2 f fd ["web","numbers"] (sp_wish_of T):=by
 refine D.F.okX sc_wish_of (fun vs H Q E h=>?_) (fun cdv A outer s H vs Q E hr h=>?_)
 · obtain ⟨p,a,t,c,m,ps,rs,xs,rfl,_⟩:=h
   rfl
 · obtain ⟨p,a,t,c,m,ps,rs,xs,rfl,W,ha,hz,k,e⟩:=h
   refine ⟨_,(pss_cons (ps_if (pt_not (pt_val (pe_call G_is_filled (hr.mono (by decide)) n_wish_of__is_filled.g D_is_filled.m D_is_filled.F.kp D_is_filled.b .nil passX (pa_cons (pvl 0 n_wish_of__web) (pa_cons (pvl 1 n_wish_of__numbers) pa_nil)) (hdb:=n_wish_of__is_filled.d)))) (pss_one (ps_raise T.e_BadWish rfl raisesX n_wish_of__BadWish.g T.m_BadWish (pa_cons pe_str pa_nil) (hdb:=n_wish_of__BadWish.d))) pss_nil) (pss_one (ps_ret (pe_callTy call_tuple_of n_wish_of__tuple.g T.tuple pb_tuple (pa_cons (pvl 1 n_wish_of__numbers) pa_nil) (hn:=n_wish_of__tuple.n) (hdb:=n_wish_of__tuple.d))))),?_⟩
   rw [show L2.start ["web","numbers"] [V.ref p,V.ref a]=[some (V.ref p),some (V.ref a)] from rfl]
   walk_at "rd"
   refine ⟨p,a,t,c,m,ps,rs,xs,rfl,W,ha,hz,fun H1 s1=>⟨_,rfl,?_⟩⟩
   by_cases z:filled m xs=false
   · rw [if_pos z]
     exact ⟨by decide,e z H1 s1⟩
   · rw [if_neg z]
     have z':filled m xs=true:=by simpa using z
     cases c
     · exact ⟨_,.inr ⟨Same.sqX (c:=false) s1 ha,k z' a H1 s1 (Same.sqX (c:=false) s1 ha)⟩⟩
     · exact ⟨_,.inl ⟨Same.sqX (c:=true) s1 ha,fun l nl=>k z' l _ (s1.trans (Same.new _ nl)) (SqT.of upd_same)⟩⟩
/-! #### standings -/
def sp_standings (T:Txt K mg):Sp:=fun vs H Q E=>∃ (p a b t:Addr) (c d:Bool) (m:Int) (ps:List Addr) (rs:List Road) (xs ys:List Int) (r:Int),vs=[.ref p,.ref a,.ref b,.int r]∧WebAt T.Web H p m t ps rs∧SqX K c H a (xs.map V.int)∧xs.length≤1000∧SqX K d H b (ys.map V.int)∧ys.length≤1000 ∧
 (filled m xs=true→filled m ys=true→0≤r→r < m→∃ par dep,Rooted m rs r par dep∧∀ l H',H l=none→Same H H'→H' l=some (.lst ((gatL m rs r par dep (fun v=>(overL m xs ys).getD v.toNat 0) (hnd rs par)).map V.int))→Q (.ref l) H') ∧
 (filled m xs=false→∀ H',Same H H'→E (.ref T.BadLaying) none H')∧(filled m xs=true→filled m ys=false→∀ H',Same H H'→E (.ref T.BadWish) none H')∧(filled m xs=true→filled m ys=true→¬ (0≤r∧r < m)→∀ H',Same H H'→E (.ref T.NoPlace) none H')
abbrev s_standings:Stmt:=top 31
theorem sc_standings:FnScope ["web","laying","wish","r","has","wanted","over","place","front"] ["web","laying","wish","r"] (defScope s_standings):=FnScope.of (by kernel_rfl)
theorem n_standings__web:NmL (defScope s_standings) "web":=.of (by kernel_rfl)
theorem n_standings__laying:NmL (defScope s_standings) "laying":=.of (by kernel_rfl)
theorem n_standings__wish:NmL (defScope s_standings) "wish":=.of (by kernel_rfl)
theorem n_standings__r:NmL (defScope s_standings) "r":=.of (by kernel_rfl)
theorem n_standings__has:NmC (defScope s_standings) "has":=.of (by kernel_rfl)
theorem n_standings__wanted:NmC (defScope s_standings) "wanted":=.of (by kernel_rfl)
theorem n_standings__over:NmL (defScope s_standings) "over":=.of (by kernel_rfl)
theorem n_standings__place:NmL (defScope s_standings) "place":=.of (by kernel_rfl)
theorem n_standings__front:NmL (defScope s_standings) "front":=.of (by kernel_rfl)
theorem n_standings__laying_of:NmG (defScope s_standings) "laying_of":=.of (by kernel_rfl)
theorem n_standings__wish_of:NmG (defScope s_standings) "wish_of":=.of (by kernel_rfl)
theorem n_standings__range:NmG (defScope s_standings) "range":=.of (by kernel_rfl)
theorem n_standings__inward:NmG (defScope s_standings) "inward":=.of (by kernel_rfl)
theorem n_standings__handed_on:NmG (defScope s_standings) "handed_on":=.of (by kernel_rfl)

theorem ok_standings (T:Txt K mg) (hq:Quiet (CXe P w)) {f:Addr} {fd:FuncData} (D:Df K mg "standings" s_standings ["web","laying","wish","r"] f fd) {f_handed_on:Addr} {fd_handed_on:FuncData} (D_handed_on:Df K mg "handed_on" s_handed_on ["web","over","place","front"] f_handed_on fd_handed_on) (G_handed_on:FnOk P w K mg base (CXe P w) 4 f_handed_on fd_handed_on ["web","over","place","front"] (sp_handed_on T)) {f_inward:Addr} {fd_inward:FuncData} (D_inward:Df K mg "inward" s_inward ["web","r"] f_inward fd_inward) (G_inward:FnOk P w K mg base (CXe P w) 7 f_inward fd_inward ["web","r"] (sp_inward T)) {f_laying_of:Addr} {fd_laying_of:FuncData} (D_laying_of:Df K mg "laying_of" s_laying_of ["web","numbers"] f_laying_of fd_laying_of) (G_laying_of:FnOk P w K mg base (CXe P w) 2 f_laying_of fd_laying_of ["web","numbers"] (sp_laying_of T)) {f_wish_of:Addr} {fd_wish_of:FuncData} (D_wish_of:Df K mg "wish_of" s_wish_of ["web","numbers"] f_wish_of fd_wish_of) (G_wish_of:FnOk P w K mg base (CXe P w) 2 f_wish_of fd_wish_of ["web","numbers"] (sp_wish_of T)):FnOk P w K mg base (CXe P w) 8 f fd ["web","laying","wish","r"] (sp_standings T):=by
 refine D.F.okX sc_standings (fun vs H Q E h=>?_) (fun cdv A outer s H vs Q E hr h=>?_)
 · obtain ⟨p,a,b,t,c,d,m,ps,rs,xs,ys,r,rfl,_⟩:=h
   rfl
 · obtain ⟨p,a,b,t,c,d,m,ps,rs,xs,ys,r,rfl,W,ha,hz,hb,hy,k,e1,e2,e3⟩:=h
   have g:=W.go
   have m1:=g.m1
   have m24:=g.m24
   refine ⟨_,(pss_cons (ps_set (i:=4) sc_standings.nd rfl (Or.inr n_standings__has.l) (pe_call G_laying_of (hr.mono (by decide)) n_standings__laying_of.g D_laying_of.m D_laying_of.F.kp D_laying_of.b .nil passX (pa_cons (pvl 0 n_standings__web) (pa_cons (pvl 1 n_standings__laying) pa_nil)) (hdb:=n_standings__laying_of.d))) (pss_cons (ps_set (i:=5) sc_standings.nd rfl (Or.inr n_standings__wanted.l) (pe_call G_wish_of (hr.mono (by decide)) n_standings__wish_of.g D_wish_of.m D_wish_of.F.kp D_wish_of.b .nil passX (pa_cons (pvl 0 n_standings__web) (pa_cons (pvl 2 n_standings__wish) pa_nil)) (hdb:=n_standings__wish_of.d))) (pss_cons (ps_setComp (i:=6) sc_standings.nd rfl n_standings__over.l rfl (ct_clos (Nc:=["place","has","wanted"]) 1 [4,5] (by decide +kernel) rfl (by decide +kernel) rfl (by show ∀ (y:Str × NameKind),y∈_→y.2=NameKind.free→(defScope s_standings).names.lookup y.1=some NameKind.cell; decide +kernel) rfl (fun _ h=>cell_has h) (fun i hi=>match i,hi with | 0,_=>⟨"has",4,rfl,rfl,rfl,by decide +kernel⟩ | 1,_=>⟨"wanted",5,rfl,rfl,rfl,by decide +kernel⟩ | i + 2,hi=>absurd hi (by show ¬ i + 2 < 2; omega))) (pi_range1 n_standings__range.g T.range (pa_cons (pe_fld  (pvl 0 n_standings__web) rfl) pa_nil)) (fun _ _ _ _=>(pg_name (i:=0) (show (["place","has","wanted"]:List Str).Nodup from by decide +kernel) rfl (Or.inl rfl))) (fun _ _ _ _=>pts_nil) (fun _ _ _ _=>(pe_op op_sub (pe_ix (ix_tupK K rfl) (pv 1) (pv 0) (fun _ _=>rfl)) (pe_ix (ix_tupK K rfl) (pv 2) (pv 0) (fun _ _=>rfl))))) (pss_cons (ps_for PassesOwn.leaving rfl (pi_list (pe_call G_inward (hr.mono (by decide)) n_standings__inward.g D_inward.m D_inward.F.kp D_inward.b .nil passX (pa_cons (pvl 0 n_standings__web) (pa_cons (pvl 3 n_standings__r) pa_nil)) (hdb:=n_standings__inward.d))) (pg_tup (n:=2) rfl (pgs_cons (pg_name (i:=7) sc_standings.nd rfl (Or.inl n_standings__place.l)) (pgs_cons (pg_name (i:=8) sc_standings.nd rfl (Or.inl n_standings__front.l)) pgs_nil))) (pss_one (ps_augS (pvl 6 n_standings__over) (pvl 8 n_standings__front) get_list (pe_call G_handed_on (hr.mono (by decide)) n_standings__handed_on.g D_handed_on.m D_handed_on.F.kp D_handed_on.b .nil passX (pa_cons (pvl 0 n_standings__web) (pa_cons (pe_ix ix_list (pvl 6 n_standings__over) (pvl 7 n_standings__place) (fun _ _=>rfl)) (pa_cons (pvl 7 n_standings__place) (pa_cons (pvl 8 n_standings__front) pa_nil)))) (hdb:=n_standings__handed_on.d)) ip_add set_list))) (pss_one (ps_ret (pvl 6 n_standings__over))))))),?_⟩
   rw [show L2.start ["web","laying","wish","r","has","wanted","over","place","front"] [V.ref p,V.ref a,V.ref b,V.int r]=[some (V.ref p),some (V.ref a),some (V.ref b),some (V.int r),none,none,none,none,none] from rfl]
   walk_at "rd"
   refine ⟨p,a,t,c,m,ps,rs,xs,rfl,W,ha,hz,fun fi la H1 s1 _ ea=>?_,e1⟩
   refine ⟨p,b,t,d,m,ps,rs,ys,rfl,W.same s1,Same.sqX s1 hb,hy,fun fj lb H2 s2 eb=>?_,fun fj H2 s2=>e2 fi fj H2 (s1.trans s2)⟩
   have lens:∀ {zs:List Int},filled m zs=true→(zs.length:Int)=m:=fun {zs} f=>by
     unfold filled at f
     rw [Bool.and_eq_true] at f
     exact of_decide_eq_true f.1
   have xl:=lens fi
   have yl:=lens fj
   have s12:=s1.trans s2
   have W2:=W.same s12
   obtain ⟨dx,ob⟩:=W2.ob
   refine ⟨T.Web,dx,_,ob,T.cl_Web,T.n_many,_,wflds_many m t,m,rfl,by omega,by omega,fun lo no=>?_⟩
   have ea2:=Same.tup s2 ea
   refine comp_range (fun i zs σ H3=>Same H2 H3∧H3 lo=some (.lst zs)∧zs=((List.range i).map fun i=>xs.getD i 0 - ys.getD i 0).map V.int∧∃ v,σ=[v,some (V.ref la),some (V.ref lb)]) ⟨Same.new _ no,upd_same,rfl,_,rfl⟩ ?_ ?_
   · rintro i zs σ H3 N hN hi ⟨s3,e3',rfl,v,rfl⟩
     rw [Int.zero_add]
     have i0:(0:Int)≤(i:Int):=by omega
     have ga:=atG (xs:=xs) i0 (by omega)
     have gb:=atG (xs:=ys) i0 (by omega)
     rw [Int.toNat_natCast] at ga gb
     walk_at "rd"
     refine ixTS (Same.tup s3 ea2) ga (ixTS (Same.tup s3 eb) gb ⟨_,rfl,_,rfl,e3',small (by simp; omega),hN _ _ _ ⟨s3.put no _,upd_same,?_,_,rfl⟩⟩)
     rw [List.range_succ,List.map_append,List.map_append]
     rfl
   · rintro zs σ H3 ⟨s3,e3',rfl,v,rfl⟩
     have no0:=s12.free no
     have s13:=s12.trans s3
     have ol:=overL_len (m:=m) (by omega) xs ys
     change H3 lo=some (.lst ((overL m xs ys).map V.int)) at e3'
     refine ⟨p,t,m,ps,rs,r,rfl,W.same s13,fun r0 r1=>?_,fun z=>e3 fi fj z H3 s13⟩
     obtain ⟨par,dep,R,k⟩:=k fi fj r0 r1
     refine ⟨par,dep,R,fun l2 qs tl H4 _ n2 s4 e4 pa O=>?_⟩
     have nll:l2≠lo:=fun z=>by rw [z,e3'] at n2; cases n2
     refine ⟨l2,rfl,⟨_,SqL.of e4⟩,?_⟩
     have ql:qs.length=tl.reverse.length:=Paired.length pa
     refine for_listN (K:=K) (xs:=qs.map V.ref) (fun i σ H5=>Same H H5∧H5 l2=some (.lst (qs.map V.ref))∧PairsAt H5 par qs tl.reverse∧∃ (cs:List Int) (v4 v5:Option V),H5 lo=some (.lst (cs.map V.int))∧Sofar m rs r par dep (fun v=>(overL m xs ys).getD v.toNat 0) (hnd rs par) (tl.drop (tl.length - i)) cs∧σ=[some (V.ref p),some (V.ref a),some (V.ref b),some (V.int r),some (V.ref la),some (V.ref lb),some (V.ref lo),v4,v5]) ⟨s13.trans s4,e4,pa,overL m xs ys,_,_,s4 _ _ e3',by rw [Nat.sub_zero,List.drop_length]; exact Sofar.nil ol,rfl⟩ (fun i σ H5 _ z=>SqL.of z.2.1) ?_ ?_
     · rintro i x σ H5 N hN hx ⟨s5,e5,pa5,cs,v4,v5,c5,so,rfl⟩
       obtain ⟨q,v,rfl,hq,hv,eq⟩:=pa5.get hx
       obtain ⟨⟨vr,vn⟩,ev,so'⟩:=O.turn g R so hv
       have u:=R.up v vr.1 vr.2 vn
       obtain ⟨kk,hk,k0,k1⟩:=toll_up g R vr.1 vr.2 vn
       obtain ⟨kd,hd,d0,d1⟩:=toll_dn g R vr.1 vr.2 vn
       have cl:=so.len
       walk_at "rd"
       refine ⟨_,SqT.of eq,rfl,_,_,rfl,_,_,rfl,rfl,?_⟩
       refine ixL c5 (atG u.1.1 (by omega)) (ixL c5 (atG vr.1 (by omega)) ?_)
       refine ⟨p,t,m,ps,rs,_,v,par v,kk,kd,rfl,W.same s5,vr,u.1,hk,hd,⟨k0,k1⟩,⟨d0,d1⟩,?_⟩
       refine ⟨_,rfl,_,rfl,setR c5 u.1.1 (by rw [List.length_map]; omega) (hN _ _ ⟨s5.put no0 _,?_,?_,gstep par (hnd rs par) cs v,_,_,?_,so',rfl⟩)⟩
       · rw [upd_ne nll]; exact e5
       · exact Paired.imp' (fun a b h=>by rw [upd_ne (ne_of h c5 (by intro z; cases z))]; exact h) pa5
       · rw [upd_same,← List.map_set]
         unfold gstep hnd
         rw [hk,hd]
         rfl
     · rintro σ H5 ⟨s5,e5,pa5,cs,v4,v5,c5,so,rfl⟩
       rw [List.length_map,ql,List.length_reverse,Nat.sub_self,List.drop_zero] at so
       rw [O.done g R so] at c5
       walk_at "rd"
       exact k lo H5 no0 s5 c5
/-! #### standing -/
def sp_standing (T:Txt K mg):Sp:=fun vs H Q E=>∃ (p a b t:Addr) (c d:Bool) (m:Int) (ps:List Addr) (rs:List Road) (xs ys:List Int) (r:Int),vs=[.ref p,.ref a,.ref b,.int r]∧WebAt T.Web H p m t ps rs∧SqX K c H a (xs.map V.int)∧xs.length≤1000∧SqX K d H b (ys.map V.int)∧ys.length≤1000 ∧
 (filled m xs=true→filled m ys=true→0≤r→r < m→∃ par dep,Rooted m rs r par dep∧∀ H',Same H H'→Q (.int (gat m rs r par dep (fun v=>(overL m xs ys).getD v.toNat 0) (hnd rs par) r)) H') ∧
 (filled m xs=false→∀ H',Same H H'→E (.ref T.BadLaying) none H')∧(filled m xs=true→filled m ys=false→∀ H',Same H H'→E (.ref T.BadWish) none H')∧(filled m xs=true→filled m ys=true→¬ (0≤r∧r < m)→∀ H',Same H H'→E (.ref T.NoPlace) none H')
abbrev s_standing:Stmt:=top 33
theorem sc_standing:FnScope ["web","laying","wish","r"] ["web","laying","wish","r"] (defScope s_standing):=FnScope.of (by kernel_rfl)
theorem n_standing__web:NmL (defScope s_standing) "web":=.of (by kernel_rfl)
theorem n_standing__laying:NmL (defScope s_standing) "laying":=.of (by kernel_rfl)
theorem n_standing__wish:NmL (defScope s_standing) "wish":=.of (by kernel_rfl)
theorem n_standing__r:NmL (defScope s_standing) "r":=.of (by kernel_rfl)
theorem n_standing__standings:NmG (defScope s_standing) "standings":=.of (by kernel_rfl)

theorem ok_standing (T:Txt K mg) (hq:Quiet (CXe P w)) {f:Addr} {fd:FuncData} (D:Df K mg "standing" s_standing ["web","laying","wish","r"] f fd) {f_standings:Addr} {fd_standings:FuncData} (D_standings:Df K mg "standings" s_standings ["web","laying","wish","r"] f_standings fd_standings) (G_standings:FnOk P w K mg base (CXe P w) 8 f_standings fd_standings ["web","laying","wish","r"] (sp_standings T)):FnOk P w K mg base (CXe P w) 9 f fd ["web","laying","wish","r"] (sp_standing T):=by
 refine D.F.okX sc_standing (fun vs H Q E h=>?_) (fun cdv A outer s H vs Q E hr h=>?_)
 · obtain ⟨p,a,b,t,c,d,m,ps,rs,xs,ys,r,rfl,_⟩:=h
   rfl
 · obtain ⟨p,a,b,t,c,d,m,ps,rs,xs,ys,r,rfl,W,ha,hz,hb,hy,k,e1,e2,e3⟩:=h
   refine ⟨_,(pss_one (ps_ret (pe_ix ix_list (pe_call G_standings (hr.mono (by decide)) n_standing__standings.g D_standings.m D_standings.F.kp D_standings.b .nil passX (pa_cons (pvl 0 n_standing__web) (pa_cons (pvl 1 n_standing__laying) (pa_cons (pvl 2 n_standing__wish) (pa_cons (pvl 3 n_standing__r) pa_nil)))) (hdb:=n_standing__standings.d)) (pvl 3 n_standing__r) (fun _ _=>rfl)))),?_⟩
   rw [show L2.start ["web","laying","wish","r"] [V.ref p,V.ref a,V.ref b,V.int r]=[some (V.ref p),some (V.ref a),some (V.ref b),some (V.int r)] from rfl]
   walk_at "rd"
   refine ⟨p,a,b,t,c,d,m,ps,rs,xs,ys,r,rfl,W,ha,hz,hb,hy,fun fi fj r0 r1=>?_,e1,e2,e3⟩
   obtain ⟨par,dep,R,k⟩:=k fi fj r0 r1
   refine ⟨par,dep,R,fun l H1 n1 s1 e1=>?_⟩
   refine ixL e1 (atG r0 ?_) ?_
   · unfold gatL; rw [List.length_map,below_length]; omega
   · rw [gatL_get r0 r1]
     exact k H1 s1
/-! #### is_met -/
def sp_is_met (T:Txt K mg):Sp:=fun vs H Q E=>∃ (p a b t:Addr) (c d:Bool) (m:Int) (ps:List Addr) (rs:List Road) (xs ys:List Int),vs=[.ref p,.ref a,.ref b]∧WebAt T.Web H p m t ps rs∧SqX K c H a (xs.map V.int)∧xs.length≤1000∧SqX K d H b (ys.map V.int)∧ys.length≤1000 ∧
 (filled m xs=true→filled m ys=true→∃ par dep,Rooted m rs 0 par dep∧∀ H',Same H H'→Q (.bl (decide (0≤gat m rs 0 par dep (fun v=>(overL m xs ys).getD v.toNat 0) (hnd rs par) 0))) H') ∧
 (filled m xs=false→∀ H',Same H H'→E (.ref T.BadLaying) none H')∧(filled m xs=true→filled m ys=false→∀ H',Same H H'→E (.ref T.BadWish) none H')
abbrev s_is_met:Stmt:=top 34
theorem sc_is_met:FnScope ["web","laying","wish"] ["web","laying","wish"] (defScope s_is_met):=FnScope.of (by kernel_rfl)
theorem n_is_met__web:NmL (defScope s_is_met) "web":=.of (by kernel_rfl)
theorem n_is_met__laying:NmL (defScope s_is_met) "laying":=.of (by kernel_rfl)
theorem n_is_met__wish:NmL (defScope s_is_met) "wish":=.of (by kernel_rfl)
theorem n_is_met__standing:NmG (defScope s_is_met) "standing":=.of (by kernel_rfl)

theorem ok_is_met (T:Txt K mg) (hq:Quiet (CXe P w)) {f:Addr} {fd:FuncData} (D:Df K mg "is_met" s_is_met ["web","laying","wish"] f fd) {f_standing:Addr} {fd_standing:FuncData} (D_standing:Df K mg "standing" s_standing ["web","laying","wish","r"] f_standing fd_standing) (G_standing:FnOk P w K mg base (CXe P w) 9 f_standing fd_standing ["web","laying","wish","r"] (sp_standing T)):FnOk P w K mg base (CXe P w) 10 f fd ["web","laying","wish"] (sp_is_met T):=by
 refine D.F.okX sc_is_met (fun vs H Q E h=>?_) (fun cdv A outer s H vs Q E hr h=>?_)
 · obtain ⟨p,a,b,t,c,d,m,ps,rs,xs,ys,rfl,_⟩:=h
   rfl
 · obtain ⟨p,a,b,t,c,d,m,ps,rs,xs,ys,rfl,W,ha,hz,hb,hy,k,e1,e2⟩:=h
   have m1:=W.go.m1
   refine ⟨_,(pss_one (ps_ret (pe_cmpR op_ge (pe_call G_standing (hr.mono (by decide)) n_is_met__standing.g D_standing.m D_standing.F.kp D_standing.b .nil passX (pa_cons (pvl 0 n_is_met__web) (pa_cons (pvl 1 n_is_met__laying) (pa_cons (pvl 2 n_is_met__wish) (pa_cons pe_int pa_nil)))) (hdb:=n_is_met__standing.d)) pe_int (nomark _)))),?_⟩
   rw [show L2.start ["web","laying","wish"] [V.ref p,V.ref a,V.ref b]=[some (V.ref p),some (V.ref a),some (V.ref b)] from rfl]
   walk_at "rd"
   refine ⟨p,a,b,t,c,d,m,ps,rs,xs,ys,0,rfl,W,ha,hz,hb,hy,fun fi fj _ _=>?_,e1,e2,fun _ _ z=>absurd ⟨Int.le_refl _,by omega⟩ z⟩
   obtain ⟨par,dep,R,k⟩:=k fi fj
   exact ⟨par,dep,R,fun H' s'=>⟨_,rfl,k H' s'⟩⟩
/-! #### lacks_of -/
theorem stdL_succ {m:Int} {rs:List Road} {PAR:Int→Int→Int} {DEP:Int→Int→Nat} {xs ys:List Int} {i:Nat}:stdL m rs PAR DEP xs ys (i + 1)=stdL m rs PAR DEP xs ys i ++ [gat m rs i (PAR i) (DEP i) (fun v=>(overL m xs ys).getD v.toNat 0) (hnd rs (PAR i)) i]:=by
 unfold stdL
 rw [below_succ,List.map_append]
 rfl
def sp_lacks_of (T:Txt K mg):Sp:=fun vs H Q _=>∃ (p a b t:Addr) (c d:Bool) (m:Int) (ps:List Addr) (rs:List Road) (xs ys:List Int) (PAR:Int→Int→Int) (DEP:Int→Int→Nat),vs=[.ref p,.ref a,.ref b]∧WebAt T.Web H p m t ps rs∧SqX K c H a (xs.map V.int)∧filled m xs=true∧SqX K d H b (ys.map V.int)∧filled m ys=true∧(∀ r,0≤r→r < m→Rooted m rs r (PAR r) (DEP r)) ∧
 ∀ l H',H l=none→Same H H'→H' l=some (.tup (((stdL m rs PAR DEP xs ys m.toNat).map fun x=>-x).map V.int))→Q (.ref l) H'
abbrev s_lacks_of:Stmt:=top 38
theorem sc_lacks_of:FnScope ["web","laying","wish"] ["web","laying","wish"] (defScope s_lacks_of):=FnScope.of (by kernel_rfl)
theorem n_lacks_of__web:NmC (defScope s_lacks_of) "web":=.of (by kernel_rfl)
theorem n_lacks_of__laying:NmC (defScope s_lacks_of) "laying":=.of (by kernel_rfl)
theorem n_lacks_of__wish:NmC (defScope s_lacks_of) "wish":=.of (by kernel_rfl)
theorem n_lacks_of__tuple:NmG (defScope s_lacks_of) "tuple":=.of (by kernel_rfl)
theorem n_lacks_of__range:NmG (defScope s_lacks_of) "range":=.of (by kernel_rfl)

theorem ok_lacks_of (T:Txt K mg) (hq:Quiet (CXe P w)) {f:Addr} {fd:FuncData} (D:Df K mg "lacks_of" s_lacks_of ["web","laying","wish"] f fd) {f_standing:Addr} {fd_standing:FuncData} (D_standing:Df K mg "standing" s_standing ["web","laying","wish","r"] f_standing fd_standing) (G_standing:FnOk P w K mg base (CXe P w) 9 f_standing fd_standing ["web","laying","wish","r"] (sp_standing T)):FnOk P w K mg base (CXe P w) 10 f fd ["web","laying","wish"] (sp_lacks_of T):=by
 refine D.F.okC sc_lacks_of (fun vs H Q E h=>?_) (fun cdv A outer s H vs Q E hr h=>?_)
 · obtain ⟨p,a,b,t,c,d,m,ps,rs,xs,ys,PAR,DEP,rfl,_⟩:=h
   rfl
 · obtain ⟨p,a,b,t,c,d,m,ps,rs,xs,ys,PAR,DEP,rfl,W,ha,fx,hb,fy,RR,k⟩:=h
   have g:=W.go
   have m24:=g.m24
   have m1:=g.m1
   have xl:=filled_len fx
   have yl:=filled_len fy
   obtain ⟨dx,ob⟩:=W.ob
   refine ⟨_,(pss_one (ps_ret (pe_callTy call_tuple_of n_lacks_of__tuple.g T.tuple pb_tuple (pa_cons (pe_comp rfl (ct_clos (Nc:=["r","web","laying","wish"]) 1 [0,1,2] (by decide +kernel) rfl (by decide +kernel) rfl (by show ∀ (y:Str × NameKind),y∈_→y.2=NameKind.free→(defScope s_lacks_of).names.lookup y.1=some NameKind.cell; decide +kernel) rfl (fun _ h=>cell_has h) (fun i hi=>match i,hi with | 0,_=>⟨"web",0,rfl,rfl,rfl,by decide +kernel⟩ | 1,_=>⟨"laying",1,rfl,rfl,rfl,by decide +kernel⟩ | 2,_=>⟨"wish",2,rfl,rfl,rfl,by decide +kernel⟩ | i + 3,hi=>absurd hi (by show ¬ i + 3 < 3; omega))) (pi_range1 n_lacks_of__range.g T.range (pa_cons (pe_fld  (pvc 0 n_lacks_of__web) rfl) pa_nil)) (fun _ _ _ _=>(pg_name (i:=0) (show (["r","web","laying","wish"]:List Str).Nodup from by decide +kernel) rfl (Or.inl rfl))) (fun _ _ _ _=>pts_nil) (fun _ _ _ _=>(pe_un un_neg (pe_call G_standing (hr.mono (by decide)) (by rfl) D_standing.m D_standing.F.kp D_standing.b .nil (passQ hq) (pa_cons (pv 1) (pa_cons (pv 2) (pa_cons (pv 3) (pa_cons (pv 0) pa_nil)))))))) pa_nil) (hn:=n_lacks_of__tuple.n) (hdb:=n_lacks_of__tuple.d)))),?_⟩
   rw [show L2.start ["web","laying","wish"] [V.ref p,V.ref a,V.ref b]=[some (V.ref p),some (V.ref a),some (V.ref b)] from rfl]
   walk_at "rd"
   refine ⟨T.Web,dx,_,ob,T.cl_Web,T.n_many,_,wflds_many m t,m,rfl,by omega,by omega,fun pc nc=>?_⟩
   refine comp_range (fun i zs σ H3=>Same H H3∧H3 pc=some (.lst zs)∧zs=((stdL m rs PAR DEP xs ys i).map fun x=>-x).map V.int∧∃ v,σ=[v,some (V.ref p),some (V.ref a),some (V.ref b)]) ⟨Same.new _ nc,upd_same,rfl,_,rfl⟩ ?_ ?_
   · rintro i zs σ H3 N hN hi ⟨s3,e3,rfl,v,rfl⟩
     rw [Int.zero_add]
     have i0:(0:Int)≤(i:Int):=by omega
     have i1:(i:Int) < m:=by omega
     walk_at "rd"
     refine ⟨p,a,b,t,c,d,m,ps,rs,xs,ys,(i:Int),rfl,W.same s3,Same.sqX s3 ha,by omega,Same.sqX s3 hb,by omega,fun _ _ _ _=>⟨PAR i,DEP i,RR i i0 i1,fun H4 s4=>?_⟩,(fun z=>by rw [fx] at z; cases z),(fun _ z=>by rw [fy] at z; cases z),fun _ _ z=>absurd ⟨i0,i1⟩ z⟩
     refine ⟨_,rfl,s4 _ _ e3,small (by rw [List.length_map,List.length_map,stdL_len]; omega),hN _ _ _ ⟨(s3.trans s4).put nc _,upd_same,?_,_,rfl⟩⟩
     rw [stdL_succ,List.map_append,List.map_append]
     rfl
   · rintro zs σ H3 ⟨s3,e3,rfl,v,rfl⟩
     refine ⟨pc,rfl,_,.inl ⟨SqL.of e3,fun l nl=>?_⟩⟩
     exact k l _ (s3.free nl) (s3.trans (Same.new _ nl)) upd_same
/-! #### steps_in -/
def sp_steps_in (T:Txt K mg):Sp:=fun vs H Q _=>∃ (p a b t:Addr) (c d:Bool) (m:Int) (ps:List Addr) (rs:List Road) (xs ys:List Int) (r:Int) (par:Int→Int) (dep:Int→Nat),vs=[.ref p,.ref a,.ref b,.int r]∧WebAt T.Web H p m t ps rs∧SqX K c H a (xs.map V.int)∧filled m xs=true∧SqX K d H b (ys.map V.int)∧filled m ys=true∧(0≤r∧r < m)∧Rooted m rs r par dep ∧
 ∀ l qs tl H',preL m rs r par dep r=r :: tl→H l=none→Same H H'→H' l=some (.lst (qs.map V.ref))→StepsAt H' qs (innL rs par (stg m rs r par dep ys xs) tl.reverse)→Order m r par tl→Q (.ref l) H'
abbrev s_steps_in:Stmt:=top 36
theorem sc_steps_in:FnScope ["web","laying","wish","r","over","steps","place","front","times"] ["web","laying","wish","r"] (defScope s_steps_in):=FnScope.of (by kernel_rfl)
theorem n_steps_in__web:NmL (defScope s_steps_in) "web":=.of (by kernel_rfl)
theorem n_steps_in__laying:NmL (defScope s_steps_in) "laying":=.of (by kernel_rfl)
theorem n_steps_in__wish:NmL (defScope s_steps_in) "wish":=.of (by kernel_rfl)
theorem n_steps_in__r:NmL (defScope s_steps_in) "r":=.of (by kernel_rfl)
theorem n_steps_in__over:NmL (defScope s_steps_in) "over":=.of (by kernel_rfl)
theorem n_steps_in__steps:NmL (defScope s_steps_in) "steps":=.of (by kernel_rfl)
theorem n_steps_in__place:NmL (defScope s_steps_in) "place":=.of (by kernel_rfl)
theorem n_steps_in__front:NmL (defScope s_steps_in) "front":=.of (by kernel_rfl)
theorem n_steps_in__times:NmL (defScope s_steps_in) "times":=.of (by kernel_rfl)
theorem n_steps_in__standings:NmG (defScope s_steps_in) "standings":=.of (by kernel_rfl)
theorem n_steps_in__inward:NmG (defScope s_steps_in) "inward":=.of (by kernel_rfl)
theorem n_steps_in__handed_on:NmG (defScope s_steps_in) "handed_on":=.of (by kernel_rfl)

theorem ok_steps_in (T:Txt K mg) (hq:Quiet (CXe P w)) {f:Addr} {fd:FuncData} (D:Df K mg "steps_in" s_steps_in ["web","laying","wish","r"] f fd) {f_handed_on:Addr} {fd_handed_on:FuncData} (D_handed_on:Df K mg "handed_on" s_handed_on ["web","over","place","front"] f_handed_on fd_handed_on) (G_handed_on:FnOk P w K mg base (CXe P w) 4 f_handed_on fd_handed_on ["web","over","place","front"] (sp_handed_on T)) {f_inward:Addr} {fd_inward:FuncData} (D_inward:Df K mg "inward" s_inward ["web","r"] f_inward fd_inward) (G_inward:FnOk P w K mg base (CXe P w) 7 f_inward fd_inward ["web","r"] (sp_inward T)) {f_standings:Addr} {fd_standings:FuncData} (D_standings:Df K mg "standings" s_standings ["web","laying","wish","r"] f_standings fd_standings) (G_standings:FnOk P w K mg base (CXe P w) 8 f_standings fd_standings ["web","laying","wish","r"] (sp_standings T)):FnOk P w K mg base (CXe P w) 9 f fd ["web","laying","wish","r"] (sp_steps_in T):=by
 refine D.F.okC sc_steps_in (fun vs H Q E h=>?_) (fun cdv A outer s H vs Q E hr h=>?_)
 · obtain ⟨p,a,b,t,c,d,m,ps,rs,xs,ys,r,par,dep,rfl,_⟩:=h
   rfl
 · obtain ⟨p,a,b,t,c,d,m,ps,rs,xs,ys,r,par,dep,rfl,W,ha,fx,hb,fy,rr,R,k⟩:=h
   obtain ⟨r0,r1⟩:=rr
   have g:=W.go
   have m24:=g.m24
   have xl:=filled_len fx
   have yl:=filled_len fy
   refine ⟨_,(pss_cons (ps_set (i:=4) sc_steps_in.nd rfl (Or.inl n_steps_in__over.l) (pe_call G_standings (hr.mono (by decide)) n_steps_in__standings.g D_standings.m D_standings.F.kp D_standings.b .nil (passQ hq) (pa_cons (pvl 0 n_steps_in__web) (pa_cons (pvl 1 n_steps_in__laying) (pa_cons (pvl 2 n_steps_in__wish) (pa_cons (pvl 3 n_steps_in__r) pa_nil)))) (hdb:=n_steps_in__standings.d))) (pss_cons (ps_set (i:=5) sc_steps_in.nd rfl (Or.inl n_steps_in__steps.l) (pe_lst pa_nil)) (pss_cons (ps_for PassesOwn.never rfl (pi_list (pe_call G_inward (hr.mono (by decide)) n_steps_in__inward.g D_inward.m D_inward.F.kp D_inward.b .nil (passQ hq) (pa_cons (pvl 0 n_steps_in__web) (pa_cons (pvl 3 n_steps_in__r) pa_nil)) (hdb:=n_steps_in__inward.d))) (pg_tup (n:=2) rfl (pgs_cons (pg_name (i:=6) sc_steps_in.nd rfl (Or.inl n_steps_in__place.l)) (pgs_cons (pg_name (i:=7) sc_steps_in.nd rfl (Or.inl n_steps_in__front.l)) pgs_nil))) (pss_cons (ps_set (i:=8) sc_steps_in.nd rfl (Or.inl n_steps_in__times.l) (pe_call G_handed_on (hr.mono (by decide)) n_steps_in__handed_on.g D_handed_on.m D_handed_on.F.kp D_handed_on.b .nil (passQ hq) (pa_cons (pvl 0 n_steps_in__web) (pa_cons (pe_ix ix_list (pvl 4 n_steps_in__over) (pvl 6 n_steps_in__place) (fun _ _=>rfl)) (pa_cons (pvl 6 n_steps_in__place) (pa_cons (pvl 7 n_steps_in__front) pa_nil)))) (hdb:=n_steps_in__handed_on.d))) (pss_one (ps_if (pt_cmpR op_gt (pvl 8 n_steps_in__times) pe_int (nomark _)) (pss_one (ps_expr (pe_bm PySem.F.plainAttrs_list PySem.F.slot_list_append PySem.F.type_list_append mt_append (pvl 5 n_steps_in__steps) (pa_cons (pe_tup (pa_cons (pvl 6 n_steps_in__place) (pa_cons (pvl 7 n_steps_in__front) (pa_cons (pvl 8 n_steps_in__times) pa_nil)))) pa_nil)))) pss_nil)))) (pss_one (ps_ret (pvl 5 n_steps_in__steps)))))),?_⟩
   rw [show L2.start ["web","laying","wish","r","over","steps","place","front","times"] [V.ref p,V.ref a,V.ref b,V.int r]=[some (V.ref p),some (V.ref a),some (V.ref b),some (V.int r),none,none,none,none,none] from rfl]
   walk_at "rd"
   refine ⟨p,a,b,t,c,d,m,ps,rs,xs,ys,r,rfl,W,ha,by omega,hb,by omega,fun _ _ _ _=>⟨par,dep,R,fun lc H1 nc s1 ec=>⟨smallE (by simp),fun ls ns=>?_⟩⟩,(fun z=>by rw [fx] at z; cases z),(fun _ z=>by rw [fy] at z; cases z),fun _ _ z=>absurd ⟨r0,r1⟩ z⟩
   have s2:=Same.new (.lst []) ns
   have ns0:=s1.free ns
   have s12:=s1.trans s2
   have es:upd H1 ls (.lst []) ls=some (.lst []):=upd_same
   have ec2:=s2 _ _ ec
   generalize upd H1 ls (.lst [])=H2 at s2 s12 es ec2 ⊢
   refine ex6 p t m ps rs r ?_
   refine an4 rfl (W.same s12) (fun _ _=>⟨par,dep,R,fun l2 qs tl H3 et n2 s3 e3 pa O=>?_⟩) (fun z=>absurd ⟨r0,r1⟩ z)
   refine ⟨l2,rfl,⟨_,SqL.of e3⟩,?_⟩
   have ql:qs.length=tl.reverse.length:=Paired.length pa
   have ll:=preL_len g R r0 r1
   rw [et,List.length_cons] at ll
   have n2s:l2≠ls:=fun z=>by rw [z,es] at n2; cases n2
   have ncs:lc≠ls:=fun z=>by rw [← z,ec] at ns; cases ns
   have s13:=s12.trans s3
   refine for_listH (K:=K) (xs:=qs.map V.ref) (fun i σ H4=>Same H H4∧H4 l2=some (.lst (qs.map V.ref))∧H4 lc=some (.lst ((gatL m rs r par dep (fun v=>(overL m xs ys).getD v.toNat 0) (hnd rs par)).map V.int))∧PairsAt H4 par qs tl.reverse∧∃ (us:List Addr) (v5 v6 v7:Option V),H4 ls=some (.lst (us.map V.ref))∧StepsAt H4 us (innL rs par (stg m rs r par dep ys xs) (tl.reverse.take i))∧σ=[some (V.ref p),some (V.ref a),some (V.ref b),some (V.int r),some (V.ref lc),some (V.ref ls),v5,v6,v7]) ⟨s13,e3,s3 _ _ ec2,pa,[],_,_,_,s3 _ _ es,.nil,rfl⟩ (fun i σ H4 _ z=>SqL.of z.2.1) ?_ ?_
   · rintro i x σ H4 N BB hBB hN hx ⟨s4,e4,c4,pa4,us,v5,v6,v7,u4,ba,rfl⟩
     refine hBB _ _ ?_
     obtain ⟨q,v,rfl,hq,hv,eq⟩:=pa4.get hx
     have vm:v∈tl:=List.mem_reverse.mp (List.mem_of_getElem? hv)
     obtain ⟨vr,vn⟩:=O.places v vm
     have u:=R.up v vr.1 vr.2 vn
     obtain ⟨kk,hk,k0,k1⟩:=toll_up g R vr.1 vr.2 vn
     obtain ⟨kd,hd,d0,d1⟩:=toll_dn g R vr.1 vr.2 vn
     have et':tl.reverse.take (i + 1)=tl.reverse.take i ++ [v]:=by rw [List.take_succ,hv]; rfl
     have ul:us.length=(innL rs par (stg m rs r par dep ys xs) (tl.reverse.take i)).length:=Paired.length ba
     have ul2:us.length≤24:=by
       rw [ul]
       unfold innL
       rw [List.length_map]
       refine Nat.le_trans (List.length_filter_le _ _) ?_
       rw [List.length_take,List.length_reverse]
       omega
     walk_at "rd"
     refine ⟨_,SqT.of eq,rfl,_,_,rfl,_,_,rfl,rfl,?_⟩
     refine ixL c4 (atG vr.1 (by unfold gatL; rw [List.length_map,below_length]; omega)) ?_
     rw [gatL_get vr.1 vr.2]
     refine ⟨p,t,m,ps,rs,_,v,par v,kk,kd,rfl,W.same s4,vr,u.1,hk,hd,⟨k0,k1⟩,⟨d0,d1⟩,?_⟩
     have eh:(if 0≤stg m rs r par dep ys xs v then stg m rs r par dep ys xs v / kk else stg m rs r par dep ys xs v * kd)=hnd rs par v (stg m rs r par dep ys xs v):=by
       unfold hnd
       rw [hk,hd]
       rfl
     rw [eh]
     refine ⟨_,rfl,?_⟩
     obtain ⟨i1,i2⟩:=hnd_inn g R (stg m rs r par dep ys xs) vr.1 vr.2 vn
     by_cases z:0 < hnd rs par v (stg m rs r par dep ys xs v)
     · rw [if_pos z,i1 z]
       rw [i1 z] at z
       refine ⟨tyL u4,smallE (by simp),fun q5 n5=>?_⟩
       have s5:=Same.new (.tup (vSt (innS rs par (stg m rs r par dep ys xs) v))) n5
       refine appR (s5 _ _ u4) (small (by rw [List.length_map]; omega)) (hN _ _ ⟨(s4.trans s5).put ns0 _,?_,?_,?_,us ++ [q5],_,_,_,?_,?_,rfl⟩)
       · rw [upd_ne n2s]; exact s5 _ _ e4
       · rw [upd_ne ncs]; exact s5 _ _ c4
       · exact Paired.imp' (fun a b h=>by rw [upd_ne (ne_of (s5 _ _ h) (s5 _ _ u4) (by intro z; cases z))]; exact s5 _ _ h) pa4
       · rw [upd_same,List.map_append]; rfl
       · have n5s:q5≠ls:=fun z=>by rw [z,u4] at n5; cases n5
         rw [et',innL_pos (decide_eq_true z)]
         refine pr_snoc (by rw [upd_ne n5s,upd_same]; rfl) ?_
         exact Paired.imp' (fun a b h=>by rw [upd_ne (ne_of (s5 _ _ h) (s5 _ _ u4) (by intro z; cases z))]; exact s5 _ _ h) ba
     · rw [if_neg z]
       exact hN _ _ ⟨s4,e4,c4,pa4,us,_,_,_,u4,by rw [et',innL_neg (by unfold innP; rw [decide_eq_true_eq]; exact i2 z)]; exact ba,rfl⟩
   · rintro BB σ H4 hBB ⟨s4,e4,c4,pa4,us,v5,v6,v7,u4,ba,rfl⟩
     refine hBB _ _ ?_
     rw [List.length_map,ql,List.take_length] at ba
     walk_at "rd"
     exact k ls us tl H4 et ns0 s4 u4 ba O
/-! #### steps_out -/
def sp_steps_out (T:Txt K mg):Sp:=fun vs H Q _=>∃ (p a b t:Addr) (c d:Bool) (m:Int) (ps:List Addr) (rs:List Road) (xs ys:List Int) (r:Int) (par:Int→Int) (dep:Int→Nat),vs=[.ref p,.ref a,.ref b,.int r]∧WebAt T.Web H p m t ps rs∧SqX K c H a (xs.map V.int)∧filled m xs=true∧SqX K d H b (ys.map V.int)∧filled m ys=true∧(0≤r∧r < m)∧Rooted m rs r par dep ∧
 ∀ l qs tl H',preL m rs r par dep r=r :: tl→H l=none→Same H H'→H' l=some (.lst (qs.map V.ref))→StepsAt H' qs (outL par (stg m rs r par dep ys xs) tl)→Order m r par tl→Q (.ref l) H'
abbrev s_steps_out:Stmt:=top 37
theorem sc_steps_out:FnScope ["web","laying","wish","r","over","steps","place","front"] ["web","laying","wish","r"] (defScope s_steps_out):=FnScope.of (by kernel_rfl)
theorem n_steps_out__web:NmL (defScope s_steps_out) "web":=.of (by kernel_rfl)
theorem n_steps_out__laying:NmL (defScope s_steps_out) "laying":=.of (by kernel_rfl)
theorem n_steps_out__wish:NmL (defScope s_steps_out) "wish":=.of (by kernel_rfl)
theorem n_steps_out__r:NmL (defScope s_steps_out) "r":=.of (by kernel_rfl)
theorem n_steps_out__over:NmL (defScope s_steps_out) "over":=.of (by kernel_rfl)
theorem n_steps_out__steps:NmL (defScope s_steps_out) "steps":=.of (by kernel_rfl)
theorem n_steps_out__place:NmL (defScope s_steps_out) "place":=.of (by kernel_rfl)
theorem n_steps_out__front:NmL (defScope s_steps_out) "front":=.of (by kernel_rfl)
theorem n_steps_out__standings:NmG (defScope s_steps_out) "standings":=.of (by kernel_rfl)
theorem n_steps_out__reversed:NmG (defScope s_steps_out) "reversed":=.of (by kernel_rfl)
theorem n_steps_out__inward:NmG (defScope s_steps_out) "inward":=.of (by kernel_rfl)

theorem ok_steps_out (T:Txt K mg) (hq:Quiet (CXe P w)) {f:Addr} {fd:FuncData} (D:Df K mg "steps_out" s_steps_out ["web","laying","wish","r"] f fd) {f_inward:Addr} {fd_inward:FuncData} (D_inward:Df K mg "inward" s_inward ["web","r"] f_inward fd_inward) (G_inward:FnOk P w K mg base (CXe P w) 7 f_inward fd_inward ["web","r"] (sp_inward T)) {f_standings:Addr} {fd_standings:FuncData} (D_standings:Df K mg "standings" s_standings ["web","laying","wish","r"] f_standings fd_standings) (G_standings:FnOk P w K mg base (CXe P w) 8 f_standings fd_standings ["web","laying","wish","r"] (sp_standings T)):FnOk P w K mg base (CXe P w) 9 f fd ["web","laying","wish","r"] (sp_steps_out T):=by
 refine D.F.okC sc_steps_out (fun vs H Q E h=>?_) (fun cdv A outer s H vs Q E hr h=>?_)
 · obtain ⟨p,a,b,t,c,d,m,ps,rs,xs,ys,r,par,dep,rfl,_⟩:=h
   rfl
 · obtain ⟨p,a,b,t,c,d,m,ps,rs,xs,ys,r,par,dep,rfl,W,ha,fx,hb,fy,rr,R,k⟩:=h
   obtain ⟨r0,r1⟩:=rr
   have g:=W.go
   have m24:=g.m24
   have xl:=filled_len fx
   have yl:=filled_len fy
   refine ⟨_,(pss_cons (ps_set (i:=4) sc_steps_out.nd rfl (Or.inl n_steps_out__over.l) (pe_call G_standings (hr.mono (by decide)) n_steps_out__standings.g D_standings.m D_standings.F.kp D_standings.b .nil (passQ hq) (pa_cons (pvl 0 n_steps_out__web) (pa_cons (pvl 1 n_steps_out__laying) (pa_cons (pvl 2 n_steps_out__wish) (pa_cons (pvl 3 n_steps_out__r) pa_nil)))) (hdb:=n_steps_out__standings.d))) (pss_cons (ps_set (i:=5) sc_steps_out.nd rfl (Or.inl n_steps_out__steps.l) (pe_lst pa_nil)) (pss_cons (ps_for PassesOwn.never rfl (pi_rev n_steps_out__reversed.g T.reversed (pe_call G_inward (hr.mono (by decide)) n_steps_out__inward.g D_inward.m D_inward.F.kp D_inward.b .nil (passQ hq) (pa_cons (pvl 0 n_steps_out__web) (pa_cons (pvl 3 n_steps_out__r) pa_nil)) (hdb:=n_steps_out__inward.d))) (pg_tup (n:=2) rfl (pgs_cons (pg_name (i:=6) sc_steps_out.nd rfl (Or.inl n_steps_out__place.l)) (pgs_cons (pg_name (i:=7) sc_steps_out.nd rfl (Or.inl n_steps_out__front.l)) pgs_nil))) (pss_one (ps_if (pt_cmpR op_lt (pe_ix ix_list (pvl 4 n_steps_out__over) (pvl 6 n_steps_out__place) (fun _ _=>rfl)) pe_int (nomark _)) (pss_one (ps_expr (pe_bm PySem.F.plainAttrs_list PySem.F.slot_list_append PySem.F.type_list_append mt_append (pvl 5 n_steps_out__steps) (pa_cons (pe_tup (pa_cons (pvl 7 n_steps_out__front) (pa_cons (pvl 6 n_steps_out__place) (pa_cons (pe_un un_neg (pe_ix ix_list (pvl 4 n_steps_out__over) (pvl 6 n_steps_out__place) (fun _ _=>rfl))) pa_nil)))) pa_nil)))) pss_nil))) (pss_one (ps_ret (pvl 5 n_steps_out__steps)))))),?_⟩
   rw [show L2.start ["web","laying","wish","r","over","steps","place","front"] [V.ref p,V.ref a,V.ref b,V.int r]=[some (V.ref p),some (V.ref a),some (V.ref b),some (V.int r),none,none,none,none] from rfl]
   walk_at "rd"
   refine ⟨p,a,b,t,c,d,m,ps,rs,xs,ys,r,rfl,W,ha,by omega,hb,by omega,fun _ _ _ _=>⟨par,dep,R,fun lc H1 nc s1 ec=>⟨smallE (by simp),fun ls ns=>?_⟩⟩,(fun z=>by rw [fx] at z; cases z),(fun _ z=>by rw [fy] at z; cases z),fun _ _ z=>absurd ⟨r0,r1⟩ z⟩
   have s2:=Same.new (.lst []) ns
   have ns0:=s1.free ns
   have s12:=s1.trans s2
   have es:upd H1 ls (.lst []) ls=some (.lst []):=upd_same
   have ec2:=s2 _ _ ec
   generalize upd H1 ls (.lst [])=H2 at s2 s12 es ec2 ⊢
   refine ex6 p t m ps rs r ?_
   refine an4 rfl (W.same s12) (fun _ _=>⟨par,dep,R,fun l2 qs tl H3 et n2 s3 e3 pa O=>?_⟩) (fun z=>absurd ⟨r0,r1⟩ z)
   have ql:qs.length=tl.reverse.length:=Paired.length pa
   rw [List.length_reverse] at ql
   have ll:=preL_len g R r0 r1
   rw [et,List.length_cons] at ll
   have n2s:l2≠ls:=fun z=>by rw [z,es] at n2; cases n2
   have ncs:lc≠ls:=fun z=>by rw [← z,ec] at ns; cases ns
   have s13:=s12.trans s3
   refine ⟨l2,rfl,_,SqL.of e3,?_⟩
   refine for_revN (K:=K) (xs:=qs.map V.ref) (fun i σ H4=>Same H H4∧H4 l2=some (.lst (qs.map V.ref))∧H4 lc=some (.lst ((gatL m rs r par dep (fun v=>(overL m xs ys).getD v.toNat 0) (hnd rs par)).map V.int))∧PairsAt H4 par qs tl.reverse∧∃ (us:List Addr) (v5 v6:Option V),H4 ls=some (.lst (us.map V.ref))∧StepsAt H4 us (outL par (stg m rs r par dep ys xs) (tl.take i))∧σ=[some (V.ref p),some (V.ref a),some (V.ref b),some (V.int r),some (V.ref lc),some (V.ref ls),v5,v6]) ⟨s13,e3,s3 _ _ ec2,pa,[],_,_,s3 _ _ es,.nil,rfl⟩ (fun i σ H4 _ z=>SqL.of z.2.1) ?_ ?_
   · rintro i x σ H4 N hN hx ⟨s4,e4,c4,pa4,us,v5,v6,u4,ba,rfl⟩
     have il:=(List.getElem?_eq_some_iff.mp hx).1
     rw [List.length_reverse,List.length_map] at il
     rw [List.getElem?_reverse (by rw [List.length_map]; exact il),List.length_map] at hx
     obtain ⟨q,v,rfl,hq',hv,eq⟩:=pa4.get hx
     rw [List.getElem?_reverse (by omega),show tl.length - 1 - (qs.length - 1 - i)=i by omega] at hv
     have vm:=List.mem_of_getElem? hv
     have vr:=O.rng v vm
     have et':tl.take (i + 1)=tl.take i ++ [v]:=by rw [List.take_succ,hv]; rfl
     have ul:us.length=(outL par (stg m rs r par dep ys xs) (tl.take i)).length:=Paired.length ba
     have ul2:us.length≤24:=by
       rw [ul]
       unfold outL
       rw [List.length_map]
       refine Nat.le_trans (List.length_filter_le _ _) ?_
       rw [List.length_take]
       omega
     have gv:atI ((gatL m rs r par dep (fun v=>(overL m xs ys).getD v.toNat 0) (hnd rs par)).map V.int) v=some (V.int (stg m rs r par dep ys xs v)):=by
       rw [atG vr.1 (by unfold gatL; rw [List.length_map,below_length]; omega),gatL_get vr.1 vr.2]
     walk_at "rd"
     refine ⟨_,SqT.of eq,rfl,_,_,rfl,_,_,rfl,rfl,?_⟩
     refine ixL c4 gv ⟨_,rfl,?_⟩
     by_cases z:stg m rs r par dep ys xs v < 0
     · rw [if_pos z]
       refine ⟨tyL u4,ixL c4 gv ⟨_,rfl,smallE (by simp),fun q5 n5=>?_⟩⟩
       have s5:=Same.new (.tup (vSt (outS par (stg m rs r par dep ys xs) v))) n5
       refine appR (s5 _ _ u4) (small (by rw [List.length_map]; omega)) (hN _ _ ⟨(s4.trans s5).put ns0 _,?_,?_,?_,us ++ [q5],_,_,?_,?_,rfl⟩)
       · rw [upd_ne n2s]; exact s5 _ _ e4
       · rw [upd_ne ncs]; exact s5 _ _ c4
       · exact Paired.imp' (fun a b h=>by rw [upd_ne (ne_of (s5 _ _ h) (s5 _ _ u4) (by intro z; cases z))]; exact s5 _ _ h) pa4
       · rw [upd_same,List.map_append]; rfl
       · have n5s:q5≠ls:=fun z=>by rw [z,u4] at n5; cases n5
         rw [et',outL_pos (decide_eq_true z)]
         refine pr_snoc (by rw [upd_ne n5s,upd_same]; rfl) ?_
         exact Paired.imp' (fun a b h=>by rw [upd_ne (ne_of (s5 _ _ h) (s5 _ _ u4) (by intro z; cases z))]; exact s5 _ _ h) ba
     · rw [if_neg z]
       exact hN _ _ ⟨s4,e4,c4,pa4,us,_,_,u4,by rw [et',outL_neg (by unfold outP; rw [decide_eq_true_eq]; exact z)]; exact ba,rfl⟩
   · rintro σ H4 ⟨s4,e4,c4,pa4,us,v5,v6,u4,ba,rfl⟩
     rw [List.length_map,ql,List.take_length] at ba
     walk_at "rd"
     exact k ls us tl H4 et ns0 s4 u4 ba O
/-! #### meeting -/
def sp_meeting (T:Txt K mg):Sp:=fun vs H Q E=>∃ (p a b t:Addr) (c d:Bool) (m:Int) (ps:List Addr) (rs:List Road) (xs ys:List Int),vs=[.ref p,.ref a,.ref b]∧WebAt T.Web H p m t ps rs∧SqX K c H a (xs.map V.int)∧xs.length≤1000∧SqX K d H b (ys.map V.int)∧ys.length≤1000 ∧
 (filled m xs=true→filled m ys=true→∃ PAR DEP,(∀ r,0≤r→r < m→Rooted m rs r (PAR r) (DEP r)) ∧
   (0≤stg m rs 0 (PAR 0) (DEP 0) ys xs 0→∀ l lq qs tl H',preL m rs 0 (PAR 0) (DEP 0) 0=0 :: tl→Order m 0 (PAR 0) tl→H lq=none→H l=none→Same H H'→H' l=some (.tup [.str "steps",.ref lq])→H' lq=some (.lst (qs.map V.ref))→StepsAt H' qs (innL rs (PAR 0) (stg m rs 0 (PAR 0) (DEP 0) ys xs) tl.reverse ++ outL (PAR 0) (stg m rs 0 (PAR 0) (DEP 0) ys xs) tl)→Q (.ref l) H') ∧
   (¬ 0≤stg m rs 0 (PAR 0) (DEP 0) ys xs 0→∀ l lt H',H lt=none→H l=none→Same H H'→H' l=some (.tup [.str "lack",.ref lt])→H' lt=some (.tup (((stdL m rs PAR DEP xs ys m.toNat).map fun x=>-x).map V.int))→Q (.ref l) H')) ∧
 (filled m xs=false→∀ H',Same H H'→E (.ref T.BadLaying) none H')∧(filled m xs=true→filled m ys=false→∀ H',Same H H'→E (.ref T.BadWish) none H')
abbrev s_meeting:Stmt:=top 35
theorem sc_meeting:FnScope ["web","laying","wish"] ["web","laying","wish"] (defScope s_meeting):=FnScope.of (by kernel_rfl)
theorem n_meeting__web:NmL (defScope s_meeting) "web":=.of (by kernel_rfl)
theorem n_meeting__laying:NmL (defScope s_meeting) "laying":=.of (by kernel_rfl)
theorem n_meeting__wish:NmL (defScope s_meeting) "wish":=.of (by kernel_rfl)
theorem n_meeting__is_met:NmG (defScope s_meeting) "is_met":=.of (by kernel_rfl)
theorem n_meeting__steps_in:NmG (defScope s_meeting) "steps_in":=.of (by kernel_rfl)
theorem n_meeting__steps_out:NmG (defScope s_meeting) "steps_out":=.of (by kernel_rfl)
theorem n_meeting__lacks_of:NmG (defScope s_meeting) "lacks_of":=.of (by kernel_rfl)

theorem ok_meeting (T:Txt K mg) (hq:Quiet (CXe P w)) {f:Addr} {fd:FuncData} (D:Df K mg "meeting" s_meeting ["web","laying","wish"] f fd) {f_is_met:Addr} {fd_is_met:FuncData} (D_is_met:Df K mg "is_met" s_is_met ["web","laying","wish"] f_is_met fd_is_met) (G_is_met:FnOk P w K mg base (CXe P w) 10 f_is_met fd_is_met ["web","laying","wish"] (sp_is_met T)) {f_lacks_of:Addr} {fd_lacks_of:FuncData} (D_lacks_of:Df K mg "lacks_of" s_lacks_of ["web","laying","wish"] f_lacks_of fd_lacks_of) (G_lacks_of:FnOk P w K mg base (CXe P w) 10 f_lacks_of fd_lacks_of ["web","laying","wish"] (sp_lacks_of T)) {f_steps_in:Addr} {fd_steps_in:FuncData} (D_steps_in:Df K mg "steps_in" s_steps_in ["web","laying","wish","r"] f_steps_in fd_steps_in) (G_steps_in:FnOk P w K mg base (CXe P w) 9 f_steps_in fd_steps_in ["web","laying","wish","r"] (sp_steps_in T)) {f_steps_out:Addr} {fd_steps_out:FuncData} (D_steps_out:Df K mg "steps_out" s_steps_out ["web","laying","wish","r"] f_steps_out fd_steps_out) (G_steps_out:FnOk P w K mg base (CXe P w) 9 f_steps_out fd_steps_out ["web","laying","wish","r"] (sp_steps_out T)):FnOk P w K mg base (CXe P w) 11 f fd ["web","laying","wish"] (sp_meeting T):=by
 refine D.F.okX sc_meeting (fun vs H Q E h=>?_) (fun cdv A outer s H vs Q E hr h=>?_)
 · obtain ⟨p,a,b,t,c,d,m,ps,rs,xs,ys,rfl,_⟩:=h
   rfl
 · obtain ⟨p,a,b,t,c,d,m,ps,rs,xs,ys,rfl,W,ha,hz,hb,hy,k,e1,e2⟩:=h
   have m1:=W.go.m1
   have m24:=W.go.m24
   have g:=W.go
   refine ⟨_,(pss_cons (ps_if (pt_val (pe_call G_is_met (hr.mono (by decide)) n_meeting__is_met.g D_is_met.m D_is_met.F.kp D_is_met.b .nil passX (pa_cons (pvl 0 n_meeting__web) (pa_cons (pvl 1 n_meeting__laying) (pa_cons (pvl 2 n_meeting__wish) pa_nil))) (hdb:=n_meeting__is_met.d))) (pss_one (ps_ret (pe_tup (pa_cons pe_str (pa_cons (pe_op op_cat (pe_call G_steps_in (hr.mono (by decide)) n_meeting__steps_in.g D_steps_in.m D_steps_in.F.kp D_steps_in.b .nil passX (pa_cons (pvl 0 n_meeting__web) (pa_cons (pvl 1 n_meeting__laying) (pa_cons (pvl 2 n_meeting__wish) (pa_cons pe_int pa_nil)))) (hdb:=n_meeting__steps_in.d)) (pe_call G_steps_out (hr.mono (by decide)) n_meeting__steps_out.g D_steps_out.m D_steps_out.F.kp D_steps_out.b .nil passX (pa_cons (pvl 0 n_meeting__web) (pa_cons (pvl 1 n_meeting__laying) (pa_cons (pvl 2 n_meeting__wish) (pa_cons pe_int pa_nil)))) (hdb:=n_meeting__steps_out.d))) pa_nil))))) pss_nil) (pss_one (ps_ret (pe_tup (pa_cons pe_str (pa_cons (pe_call G_lacks_of (hr.mono (by decide)) n_meeting__lacks_of.g D_lacks_of.m D_lacks_of.F.kp D_lacks_of.b .nil passX (pa_cons (pvl 0 n_meeting__web) (pa_cons (pvl 1 n_meeting__laying) (pa_cons (pvl 2 n_meeting__wish) pa_nil))) (hdb:=n_meeting__lacks_of.d)) pa_nil)))))),?_⟩
   rw [show L2.start ["web","laying","wish"] [V.ref p,V.ref a,V.ref b]=[some (V.ref p),some (V.ref a),some (V.ref b)] from rfl]
   walk_at "rd"
   refine ⟨p,a,b,t,c,d,m,ps,rs,xs,ys,rfl,W,ha,hz,hb,hy,fun fx fy=>?_,e1,e2⟩
   obtain ⟨PAR,DEP,RR,k1,k2⟩:=k fx fy
   have R0:=RR 0 (Int.le_refl _) (by omega)
   refine ⟨PAR 0,DEP 0,R0,fun H1 s1=>⟨_,rfl,?_⟩⟩
   by_cases z:0≤stg m rs 0 (PAR 0) (DEP 0) ys xs 0
   · rw [if_pos (decide_eq_true z)]
     refine ⟨p,a,b,t,c,d,m,ps,rs,xs,ys,0,PAR 0,DEP 0,rfl,W.same s1,Same.sqX s1 ha,fx,Same.sqX s1 hb,fy,⟨Int.le_refl _,by omega⟩,R0,fun l1 q1 tl H2 et n1 s2 h2 st1 O=>?_⟩
     have s12:=s1.trans s2
     refine ⟨p,a,b,t,c,d,m,ps,rs,xs,ys,0,PAR 0,DEP 0,rfl,W.same s12,Same.sqX s12 ha,fx,Same.sqX s12 hb,fy,⟨Int.le_refl _,by omega⟩,R0,fun l2 q2 tl' H3 et' n2 s3 h3 st2 _=>?_⟩
     have etl:tl'=tl:=by rw [et] at et'; cases et'; rfl
     subst etl
     have ll:=preL_len g R0 (Int.le_refl _) (by omega)
     rw [et,List.length_cons] at ll
     have b1:q1.length≤24:=by
       rw [Paired.length st1]
       unfold innL
       rw [List.length_map]
       refine Nat.le_trans (List.length_filter_le _ _) ?_
       rw [List.length_reverse]
       omega
     have b2:q2.length≤24:=by
       rw [Paired.length st2]
       unfold outL
       rw [List.length_map]
       refine Nat.le_trans (List.length_filter_le _ _) ?_
       omega
     have s13:=s12.trans s3
     refine catR (s3 _ _ h2) h3 (smallE (by rw [List.length_map,List.length_map]; omega)) fun l3 n3=>⟨smallE (by simp),fun l4 n4=>?_⟩
     have s4:=Same.new (.lst (q1.map V.ref ++ q2.map V.ref)) n3
     have s5:=Same.new (.tup [V.str (Str.ofString "steps"),V.ref l3]) n4
     have n30:=s13.free n3
     have n40:=(s13.trans s4).free n4
     refine k1 z l4 l3 (q1 ++ q2) tl' _ et O n30 n40 (s13.trans (s4.trans s5)) upd_same (by rw [s5 _ _ upd_same,List.map_append]) (StepsAt.same (s4.trans s5) ?_)
     exact pr_app st2 (StepsAt.same s3 st1)
   · rw [if_neg (by rw [decide_eq_true_eq]; exact z)]
     refine ⟨p,a,b,t,c,d,m,ps,rs,xs,ys,PAR,DEP,rfl,W.same s1,Same.sqX s1 ha,fx,Same.sqX s1 hb,fy,RR,fun l2 H2 n2 s2 h2=>⟨smallE (by simp),fun l4 n4=>?_⟩⟩
     have s5:=Same.new (.tup [V.str (Str.ofString "lack"),V.ref l2]) n4
     exact k2 z l4 l2 _ (s1.free n2) ((s1.trans s2).free n4) (s1.trans (s2.trans s5)) upd_same (s5 _ _ h2)
/-! #### _law_is_led -/
theorem parentsL {m:Int} {rs:List Road} (g:Good m rs) {r:Int} {par:Int→Int} {dep:Int→Nat} (R:Rooted m rs r par dep):∃ (PAR:Int→Int→Int) (DEP:Int→Int→Nat),(∀ r,0≤r→r < m→Rooted m rs r (PAR r) (DEP r))∧PAR r=par∧DEP r=dep :=
 ⟨fun q=>if q=r then par else if h:0≤q∧q < m then (rooted g h.1 h.2).choose else fun _=>0,fun q=>if q=r then dep else if h:0≤q∧q < m then (rooted g h.1 h.2).choose_spec.choose else fun _=>0,fun q q0 q1=>by
   dsimp only
   by_cases z:q=r
   · rw [if_pos z,if_pos z,z]; exact R
   · rw [if_neg z,if_neg z,dif_pos ⟨q0,q1⟩,dif_pos ⟨q0,q1⟩]
     exact (rooted g q0 q1).choose_spec.choose_spec,by dsimp only; rw [if_pos rfl],by dsimp only; rw [if_pos rfl]⟩
/-- of a wish that is met: its answer leads to what is wanted -/
def sp_law_is_led (T:Txt K mg):Sp:=fun vs H Q _=>∃ (p dt a b t:Addr) (m:Int) (ps:List Addr) (rs:List Road) (xs ys:List Int) (par:Int→Int) (dep:Int→Nat),vs=[.ref p,.ref dt,.ref a,.ref b]∧WebAt T.Web H p m t ps rs∧TollsAt H dt rs∧H a=some (.lst (xs.map V.int))∧filled m xs=true∧H b=some (.lst (ys.map V.int))∧filled m ys=true∧Rooted m rs 0 par dep∧0≤stg m rs 0 par dep ys xs 0∧∀ H',Same H H'→Q (.bl true) H'
abbrev s_law_is_led:Stmt:=top 53
theorem sc_law_is_led:FnScope ["web","tolls","laying","wish","found"] ["web","tolls","laying","wish"] (defScope s_law_is_led):=FnScope.of (by kernel_rfl)
theorem n_law_is_led__web:NmL (defScope s_law_is_led) "web":=.of (by kernel_rfl)
theorem n_law_is_led__tolls:NmL (defScope s_law_is_led) "tolls":=.of (by kernel_rfl)
theorem n_law_is_led__laying:NmL (defScope s_law_is_led) "laying":=.of (by kernel_rfl)
theorem n_law_is_led__wish:NmL (defScope s_law_is_led) "wish":=.of (by kernel_rfl)
theorem n_law_is_led__found:NmL (defScope s_law_is_led) "found":=.of (by kernel_rfl)
theorem n_law_is_led__meeting:NmG (defScope s_law_is_led) "meeting":=.of (by kernel_rfl)
theorem n_law_is_led__law_covers:NmG (defScope s_law_is_led) "_law_covers":=.of (by kernel_rfl)
theorem n_law_is_led__law_done:NmG (defScope s_law_is_led) "_law_done":=.of (by kernel_rfl)

theorem ok_law_is_led (T:Txt K mg) (hq:Quiet (CXe P w)) {f:Addr} {fd:FuncData} (D:Df K mg "_law_is_led" s_law_is_led ["web","tolls","laying","wish"] f fd) {f_law_covers:Addr} {fd_law_covers:FuncData} (D_law_covers:Df K mg "_law_covers" s_law_covers ["held","wish"] f_law_covers fd_law_covers) (G_law_covers:FnOk P w K mg base (CXe P w) 1 f_law_covers fd_law_covers ["held","wish"] (sp_law_covers T)) {f_law_done:Addr} {fd_law_done:FuncData} (D_law_done:Df K mg "_law_done" s_law_done ["tolls","laying","steps"] f_law_done fd_law_done) (G_law_done:FnOk P w K mg base (CXe P w) 1 f_law_done fd_law_done ["tolls","laying","steps"] (sp_law_done T)) {f_meeting:Addr} {fd_meeting:FuncData} (D_meeting:Df K mg "meeting" s_meeting ["web","laying","wish"] f_meeting fd_meeting) (G_meeting:FnOk P w K mg base (CXe P w) 11 f_meeting fd_meeting ["web","laying","wish"] (sp_meeting T)):FnOk P w K mg base (CXe P w) 12 f fd ["web","tolls","laying","wish"] (sp_law_is_led T):=by
 refine D.F.okC sc_law_is_led (fun vs H Q E h=>?_) (fun cdv A outer s H vs Q E hr h=>?_)
 · obtain ⟨p,dt,a,b,t,m,ps,rs,xs,ys,par,dep,rfl,_⟩:=h
   rfl
 · obtain ⟨p,dt,a,b,t,m,ps,rs,xs,ys,par,dep,rfl,W,ta,ha,fx,hb,fy,R,s0,k⟩:=h
   have g:=W.go
   have m1:=g.m1
   have m24:=g.m24
   have xl:=filled_len fx
   have yl:=filled_len fy
   obtain ⟨PAR,DEP,RR,eP,eD⟩:=parentsL g R
   refine ⟨_,(pss_cons (ps_set (i:=4) sc_law_is_led.nd rfl (Or.inl n_law_is_led__found.l) (pe_call G_meeting (hr.mono (by decide)) n_law_is_led__meeting.g D_meeting.m D_meeting.F.kp D_meeting.b .nil (passQ hq) (pa_cons (pvl 0 n_law_is_led__web) (pa_cons (pvl 2 n_law_is_led__laying) (pa_cons (pvl 3 n_law_is_led__wish) pa_nil))) (hdb:=n_law_is_led__meeting.d))) (pss_one (ps_ret (pe_and (pe_cmpR op_eq (pe_ix ix_tup (pvl 4 n_law_is_led__found) pe_int (fun _ _=>rfl)) pe_str (nomark _)) (pe_one (pe_call G_law_covers (hr.mono (by decide)) n_law_is_led__law_covers.g D_law_covers.m D_law_covers.F.kp D_law_covers.b .nil (passQ hq) (pa_cons (pe_call G_law_done (hr.mono (by decide)) n_law_is_led__law_done.g D_law_done.m D_law_done.F.kp D_law_done.b .nil (passQ hq) (pa_cons (pvl 1 n_law_is_led__tolls) (pa_cons (pvl 2 n_law_is_led__laying) (pa_cons (pe_ix ix_tup (pvl 4 n_law_is_led__found) pe_int (fun _ _=>rfl)) pa_nil))) (hdb:=n_law_is_led__law_done.d)) (pa_cons (pvl 3 n_law_is_led__wish) pa_nil)) (hdb:=n_law_is_led__law_covers.d))))))),?_⟩
   rw [show L2.start ["web","tolls","laying","wish","found"] [V.ref p,V.ref dt,V.ref a,V.ref b]=[some (V.ref p),some (V.ref dt),some (V.ref a),some (V.ref b),none] from rfl]
   walk_at "rd"
   refine ⟨p,a,b,t,true,true,m,ps,rs,xs,ys,rfl,W,SqL.of ha,by omega,SqL.of hb,by omega,fun _ _=>⟨PAR,DEP,RR,?_,?_⟩,(fun z=>by rw [fx] at z; cases z),(fun _ z=>by rw [fy] at z; cases z)⟩
   · rw [eP,eD]
     intro _ l lq qs tl H1 et O nq nl s1 hl hq' st
     refine ixT hl rfl ⟨rfl,?_⟩
     rw [if_pos rfl]
     refine ixT hl rfl ?_
     have L:=lead_of g R xl (filled_nn fy) s0
     have ca:=L.all g R O
     refine ⟨dt,a,lq,true,m,rs,xs,qs,_,rfl,ta.same s1,g,s1 _ _ ha,xl,hq',st,fun _ l2 H2 n2 s2 h2=>?_,fun z=>absurd ca z⟩
     refine ⟨b,ys,.ref l2,rfl,s2 _ _ (s1 _ _ hb),by omega,.inr ⟨l2,_,rfl,h2,by rw [stAt_len]; omega,fun H3 s3=>?_⟩⟩
     have cv:cvL (stAt rs xs (innL rs par (stg m rs 0 par dep ys xs) tl.reverse ++ outL par (stg m rs 0 par dep ys xs) tl) (innL rs par (stg m rs 0 par dep ys xs) tl.reverse ++ outL par (stg m rs 0 par dep ys xs) tl).length) ys=true:=by
       rw [cvL_at (by rw [stAt_len]; omega),List.all_eq_true]
       intro bb hbb
       obtain ⟨i,hi,rfl⟩:=List.mem_map.mp hbb
       have hi':=List.mem_range.mp hi
       have:=L.meets g R O (v:=(i:Int)) (by omega) (by omega)
       rw [Int.toNat_natCast,← stAt_full] at this
       exact decide_eq_true this
     rw [cv]
     exact k H3 (s1.trans (s2.trans s3))
   · rw [eP,eD]
     exact fun z=>absurd s0 z
/-! #### _law_more -/
def sp_law_more (T:Txt K mg):Sp:=fun vs H Q _=>∃ (a:Addr) (xs:List Int) (r n:Int),vs=[.ref a,.int r,.int n]∧H a=some (.lst (xs.map V.int))∧(0≤r∧r < xs.length)∧∀ l H',H l=none→Same H H'→H' l=some (.lst ((xs.set r.toNat (xs.getD r.toNat 0 + n)).map V.int))→Q (.ref l) H'
abbrev s_law_more:Stmt:=top 54
theorem sc_law_more:FnScope ["numbers","place","many","made"] ["numbers","place","many"] (defScope s_law_more):=FnScope.of (by kernel_rfl)
theorem n_law_more__numbers:NmL (defScope s_law_more) "numbers":=.of (by kernel_rfl)
theorem n_law_more__place:NmL (defScope s_law_more) "place":=.of (by kernel_rfl)
theorem n_law_more__many:NmL (defScope s_law_more) "many":=.of (by kernel_rfl)
theorem n_law_more__made:NmL (defScope s_law_more) "made":=.of (by kernel_rfl)
theorem n_law_more__list:NmG (defScope s_law_more) "list":=.of (by kernel_rfl)

theorem ok_law_more (T:Txt K mg) (hq:Quiet (CXe P w)) {f:Addr} {fd:FuncData} (D:Df K mg "_law_more" s_law_more ["numbers","place","many"] f fd):FnOk P w K mg base (CXe P w) 1 f fd ["numbers","place","many"] (sp_law_more T):=by
 refine D.F.okC sc_law_more (fun vs H Q E h=>?_) (fun cdv A outer s H vs Q E hr h=>?_)
 · obtain ⟨a,xs,r,n,rfl,_⟩:=h
   rfl
 · obtain ⟨a,xs,r,n,rfl,ha,rr,k⟩:=h
   refine ⟨_,(pss_cons (ps_set (i:=3) sc_law_more.nd rfl (Or.inl n_law_more__made.l) (pe_callTy call_list_of n_law_more__list.g T.list pb_list (pa_cons (pvl 0 n_law_more__numbers) pa_nil) (hn:=n_law_more__list.n) (hdb:=n_law_more__list.d))) (pss_cons (ps_asg (pe_op op_add (pe_ix ix_list (pvl 3 n_law_more__made) (pvl 1 n_law_more__place) (fun _ _=>rfl)) (pvl 2 n_law_more__many)) (pg_sub (pvl 3 n_law_more__made) (pvl 1 n_law_more__place) set_list)) (pss_one (ps_ret (pvl 3 n_law_more__made))))),?_⟩
   rw [show L2.start ["numbers","place","many","made"] [V.ref a,V.int r,V.int n]=[some (V.ref a),some (V.int r),some (V.int n),none] from rfl]
   walk_at "rd"
   refine ⟨_,.inl (SqL.of ha),fun l nl=>?_⟩
   refine ixL upd_same (atG rr.1 rr.2) ⟨_,rfl,setR upd_same rr.1 (by rw [List.length_map]; exact rr.2) ?_⟩
   rw [upd_upd,← List.map_set]
   exact k l _ nl (Same.new _ nl) upd_same
/-! #### _law_right -/
def sp_law_right (T:Txt K mg):Sp:=fun vs H Q _=>∃ (p dt a b t:Addr) (m r:Int) (ps:List Addr) (rs:List Road) (xs ys:List Int),vs=[.ref p,.ref dt,.ref a,.ref b,.int r]∧WebAt T.Web H p m t ps rs∧TollsAt H dt rs∧H a=some (.lst (xs.map V.int))∧filled m xs=true∧H b=some (.lst (ys.map V.int))∧filled m ys=true∧(0≤r∧r < m)∧∀ H',Same H H'→Q (.bl true) H'
theorem filled_set {m:Int} {xs:List Int} {r n:Int} (f:filled m xs=true) (h:0≤xs.getD r.toNat 0 + n):filled m (xs.set r.toNat (xs.getD r.toNat 0 + n))=true:=filled_of (by rw [List.length_set]; exact filled_len f) (ge_set (filled_nn f) h)
abbrev s_law_right:Stmt:=top 55
theorem sc_law_right:FnScope ["web","tolls","laying","wish","r","told"] ["web","tolls","laying","wish","r"] (defScope s_law_right):=FnScope.of (by kernel_rfl)
theorem n_law_right__web:NmL (defScope s_law_right) "web":=.of (by kernel_rfl)
theorem n_law_right__tolls:NmL (defScope s_law_right) "tolls":=.of (by kernel_rfl)
theorem n_law_right__laying:NmL (defScope s_law_right) "laying":=.of (by kernel_rfl)
theorem n_law_right__wish:NmL (defScope s_law_right) "wish":=.of (by kernel_rfl)
theorem n_law_right__r:NmL (defScope s_law_right) "r":=.of (by kernel_rfl)
theorem n_law_right__told:NmL (defScope s_law_right) "told":=.of (by kernel_rfl)
theorem n_law_right__standing:NmG (defScope s_law_right) "standing":=.of (by kernel_rfl)
theorem n_law_right__is_met:NmG (defScope s_law_right) "is_met":=.of (by kernel_rfl)
theorem n_law_right__law_more:NmG (defScope s_law_right) "_law_more":=.of (by kernel_rfl)
theorem n_law_right__law_is_led:NmG (defScope s_law_right) "_law_is_led":=.of (by kernel_rfl)

theorem ok_law_right (T:Txt K mg) (hq:Quiet (CXe P w)) {f:Addr} {fd:FuncData} (D:Df K mg "_law_right" s_law_right ["web","tolls","laying","wish","r"] f fd) {f_law_is_led:Addr} {fd_law_is_led:FuncData} (D_law_is_led:Df K mg "_law_is_led" s_law_is_led ["web","tolls","laying","wish"] f_law_is_led fd_law_is_led) (G_law_is_led:FnOk P w K mg base (CXe P w) 12 f_law_is_led fd_law_is_led ["web","tolls","laying","wish"] (sp_law_is_led T)) {f_law_more:Addr} {fd_law_more:FuncData} (D_law_more:Df K mg "_law_more" s_law_more ["numbers","place","many"] f_law_more fd_law_more) (G_law_more:FnOk P w K mg base (CXe P w) 1 f_law_more fd_law_more ["numbers","place","many"] (sp_law_more T)) {f_is_met:Addr} {fd_is_met:FuncData} (D_is_met:Df K mg "is_met" s_is_met ["web","laying","wish"] f_is_met fd_is_met) (G_is_met:FnOk P w K mg base (CXe P w) 10 f_is_met fd_is_met ["web","laying","wish"] (sp_is_met T)) {f_standing:Addr} {fd_standing:FuncData} (D_standing:Df K mg "standing" s_standing ["web","laying","wish","r"] f_standing fd_standing) (G_standing:FnOk P w K mg base (CXe P w) 9 f_standing fd_standing ["web","laying","wish","r"] (sp_standing T)):FnOk P w K mg base (CXe P w) 13 f fd ["web","tolls","laying","wish","r"] (sp_law_right T):=by
 refine D.F.okC sc_law_right (fun vs H Q E h=>?_) (fun cdv A outer s H vs Q E hr h=>?_)
 · obtain ⟨p,dt,a,b,t,m,r,ps,rs,xs,ys,rfl,_⟩:=h
   rfl
 · obtain ⟨p,dt,a,b,t,m,r,ps,rs,xs,ys,rfl,W,ta,ha,fx,hb,fy,rr,k⟩:=h
   obtain ⟨r0,r1⟩:=rr
   have g:=W.go
   have m1:=g.m1
   have m24:=g.m24
   have xl:=filled_len fx
   have yl:=filled_len fy
   obtain ⟨par,dep,R⟩:=rooted g r0 r1
   obtain ⟨par0,dep0,R0⟩:=rooted g (Int.le_refl 0) (show 0 < m by omega)
   refine ⟨_,(pss_cons (ps_set (i:=5) sc_law_right.nd rfl (Or.inl n_law_right__told.l) (pe_call G_standing (hr.mono (by decide)) n_law_right__standing.g D_standing.m D_standing.F.kp D_standing.b .nil (passQ hq) (pa_cons (pvl 0 n_law_right__web) (pa_cons (pvl 2 n_law_right__laying) (pa_cons (pvl 3 n_law_right__wish) (pa_cons (pvl 4 n_law_right__r) pa_nil)))) (hdb:=n_law_right__standing.d))) (pss_cons (ps_if (pt_cmpR op_ge (pvl 5 n_law_right__told) pe_int (nomark _)) (pss_cons (ps_if (pt_val (pe_call G_is_met (hr.mono (by decide)) n_law_right__is_met.g D_is_met.m D_is_met.F.kp D_is_met.b .nil (passQ hq) (pa_cons (pvl 0 n_law_right__web) (pa_cons (pvl 2 n_law_right__laying) (pa_cons (pe_call G_law_more (hr.mono (by decide)) n_law_right__law_more.g D_law_more.m D_law_more.F.kp D_law_more.b .nil (passQ hq) (pa_cons (pvl 3 n_law_right__wish) (pa_cons (pvl 4 n_law_right__r) (pa_cons (pe_op op_add (pvl 5 n_law_right__told) pe_int) pa_nil))) (hdb:=n_law_right__law_more.d)) pa_nil))) (hdb:=n_law_right__is_met.d))) (pss_one (ps_ret pe_bl)) pss_nil) (pss_one (ps_ret (pe_call G_law_is_led (hr.mono (by decide)) n_law_right__law_is_led.g D_law_is_led.m D_law_is_led.F.kp D_law_is_led.b .nil (passQ hq) (pa_cons (pvl 0 n_law_right__web) (pa_cons (pvl 1 n_law_right__tolls) (pa_cons (pvl 2 n_law_right__laying) (pa_cons (pe_call G_law_more (hr.mono (by decide)) n_law_right__law_more.g D_law_more.m D_law_more.F.kp D_law_more.b .nil (passQ hq) (pa_cons (pvl 3 n_law_right__wish) (pa_cons (pvl 4 n_law_right__r) (pa_cons (pvl 5 n_law_right__told) pa_nil))) (hdb:=n_law_right__law_more.d)) pa_nil)))) (hdb:=n_law_right__law_is_led.d))))) pss_nil) (pss_cons (ps_if (pt_val (pe_call G_is_met (hr.mono (by decide)) n_law_right__is_met.g D_is_met.m D_is_met.F.kp D_is_met.b .nil (passQ hq) (pa_cons (pvl 0 n_law_right__web) (pa_cons (pe_call G_law_more (hr.mono (by decide)) n_law_right__law_more.g D_law_more.m D_law_more.F.kp D_law_more.b .nil (passQ hq) (pa_cons (pvl 2 n_law_right__laying) (pa_cons (pvl 4 n_law_right__r) (pa_cons (pe_op op_sub (pe_op op_sub pe_int (pvl 5 n_law_right__told)) pe_int) pa_nil))) (hdb:=n_law_right__law_more.d)) (pa_cons (pvl 3 n_law_right__wish) pa_nil))) (hdb:=n_law_right__is_met.d))) (pss_one (ps_ret pe_bl)) pss_nil) (pss_one (ps_ret (pe_call G_law_is_led (hr.mono (by decide)) n_law_right__law_is_led.g D_law_is_led.m D_law_is_led.F.kp D_law_is_led.b .nil (passQ hq) (pa_cons (pvl 0 n_law_right__web) (pa_cons (pvl 1 n_law_right__tolls) (pa_cons (pe_call G_law_more (hr.mono (by decide)) n_law_right__law_more.g D_law_more.m D_law_more.F.kp D_law_more.b .nil (passQ hq) (pa_cons (pvl 2 n_law_right__laying) (pa_cons (pvl 4 n_law_right__r) (pa_cons (pe_op op_sub pe_int (pvl 5 n_law_right__told)) pa_nil))) (hdb:=n_law_right__law_more.d)) (pa_cons (pvl 3 n_law_right__wish) pa_nil)))) (hdb:=n_law_right__law_is_led.d))))))),?_⟩
   rw [show L2.start ["web","tolls","laying","wish","r","told"] [V.ref p,V.ref dt,V.ref a,V.ref b,V.int r]=[some (V.ref p),some (V.ref dt),some (V.ref a),some (V.ref b),some (V.int r),none] from rfl]
   walk_at "rd"
   refine ⟨p,a,b,t,true,true,m,ps,rs,xs,ys,r,rfl,W,SqL.of ha,by omega,SqL.of hb,by omega,fun _ _ _ _=>⟨par,dep,R,fun H1 s1=>?_⟩,(fun z=>by rw [fx] at z; cases z),(fun _ z=>by rw [fy] at z; cases z),fun _ _ z=>absurd ⟨r0,r1⟩ z⟩
   have no:∀ {xs ys:List Int},filled m xs=true→filled m ys=true→stg m rs r par dep ys xs r < 0→decide (0≤stg m rs 0 par0 dep0 ys xs 0)=false:=fun {xs ys} fx fy h=>by
     rw [decide_eq_false_iff_not]
     intro z
     have:=met_any g R0 (Int.le_refl _) (by omega) R r0 r1 (filled_len fx) (filled_nn fx) (filled_nn fy) z
     omega
   have yes:∀ {xs ys:List Int},filled m xs=true→filled m ys=true→stg m rs r par dep ys xs r=0→0≤stg m rs 0 par0 dep0 ys xs 0:=fun {xs ys} fx fy h=>met_any g R r0 r1 R0 (Int.le_refl _) (by omega) (filled_len fx) (filled_nn fx) (filled_nn fy) (by omega)
   have xg:=getD_ge (filled_nn fx) r.toNat
   have yg:=getD_ge (filled_nn fy) r.toNat
   have s00:stg m rs r par dep ys xs r=gat m rs r par dep (fun v=>(overL m xs ys).getD v.toNat 0) (hnd rs par) r:=rfl
   rw [← s00]
   generalize hs:stg m rs r par dep ys xs r=st
   refine ⟨_,rfl,?_⟩
   by_cases z:0≤st
   · rw [if_pos z]
     refine ⟨_,rfl,b,ys,r,_,rfl,s1 _ _ hb,⟨r0,by omega⟩,fun l H2 nl s2 el=>?_⟩
     have s12:=s1.trans s2
     have f2:=filled_set (r:=r) (n:=st + 1) fy (by omega)
     refine ⟨p,a,l,t,true,true,m,ps,rs,xs,_,rfl,W.same s12,SqL.of (s12 _ _ ha),by omega,SqL.of el,by rw [List.length_set]; omega,fun _ _=>⟨par0,dep0,R0,fun H3 s3=>⟨_,rfl,?_⟩⟩,(fun z=>by rw [fx] at z; cases z),(fun _ z=>by rw [f2] at z; cases z)⟩
     have:=no fx f2 (by rw [stg_more_y g R r0 r1 yl,hs]; omega)
     rw [this,if_neg (by decide)]
     have s13:=s12.trans s3
     refine ⟨b,ys,r,_,rfl,s13 _ _ hb,⟨r0,by omega⟩,fun l' H4 nl' s4 el'=>?_⟩
     have f3:=filled_set (r:=r) (n:=st) fy (by omega)
     have s14:=s13.trans s4
     exact ⟨p,dt,a,l',t,m,ps,rs,xs,_,par0,dep0,rfl,W.same s14,ta.same s14,s14 _ _ ha,fx,el',f3,R0,yes fx f3 (by rw [stg_more_y g R r0 r1 yl,hs]; omega),fun H5 s5=>k H5 (s14.trans s5)⟩
   · rw [if_neg z]
     refine ⟨_,rfl,a,xs,r,_,rfl,s1 _ _ ha,⟨r0,by omega⟩,fun l H2 nl s2 el=>?_⟩
     have s12:=s1.trans s2
     have f2:=filled_set (r:=r) (n:=0 - st - 1) fx (by omega)
     refine ⟨p,l,b,t,true,true,m,ps,rs,_,ys,rfl,W.same s12,SqL.of el,by rw [List.length_set]; omega,SqL.of (s12 _ _ hb),by omega,fun _ _=>⟨par0,dep0,R0,fun H3 s3=>⟨_,rfl,?_⟩⟩,(fun z=>by rw [f2] at z; cases z),(fun _ z=>by rw [fy] at z; cases z)⟩
     have:=no f2 fy (by rw [stg_more_x g R r0 r1 xl,hs]; omega)
     rw [this,if_neg (by decide)]
     have s13:=s12.trans s3
     refine ⟨_,rfl,a,xs,r,_,rfl,s13 _ _ ha,⟨r0,by omega⟩,fun l' H4 nl' s4 el'=>?_⟩
     have f3:=filled_set (r:=r) (n:=0 - st) fx (by omega)
     have s14:=s13.trans s4
     exact ⟨p,dt,l',b,t,m,ps,rs,_,ys,par0,dep0,rfl,W.same s14,ta.same s14,el',f3,s14 _ _ hb,fy,R0,yes f3 fy (by rw [stg_more_x g R r0 r1 xl,hs]; omega),fun H5 s5=>k H5 (s14.trans s5)⟩
/-! #### _law_toll -/
def sp_law_toll (T:Txt K mg):Sp:=fun vs H Q _=>∃ (c:Int),vs=[.int c]∧∀ t,2≤t→t≤1000000→Q (.int t) H
abbrev s_law_toll:Stmt:=top 41
theorem sc_law_toll:FnScope ["part"] ["part"] (defScope s_law_toll):=FnScope.of (by kernel_rfl)
theorem n_law_toll__part:NmL (defScope s_law_toll) "part":=.of (by kernel_rfl)

theorem ok_law_toll (T:Txt K mg) (hq:Quiet (CXe P w)) {f:Addr} {fd:FuncData} (D:Df K mg "_law_toll" s_law_toll ["part"] f fd):FnOk P w K mg base (CXe P w) 1 f fd ["part"] (sp_law_toll T):=by
 refine D.F.okC sc_law_toll (fun vs H Q E h=>?_) (fun cdv A outer s H vs Q E hr h=>?_)
 · obtain ⟨c,rfl,_⟩:=h
   rfl
 · obtain ⟨c,rfl,k⟩:=h
   refine ⟨_,(pss_cons (ps_if (pt_cmpR op_eq (pe_op op_mod (pvl 0 n_law_toll__part) pe_int) pe_int (nomark _)) (pss_one (ps_ret (pe_op op_add pe_int (pe_op op_mod (pe_op op_fdiv (pvl 0 n_law_toll__part) pe_int) (pe_op op_sub (pe_op op_pow pe_int pe_int) pe_int))))) pss_nil) (pss_one (ps_ret (pe_op op_add pe_int (pe_op op_mod (pe_op op_fdiv (pvl 0 n_law_toll__part) pe_int) pe_int))))),?_⟩
   rw [show L2.start ["part"] [V.int c]=[some (V.int c)] from rfl]
   walk_at "rd"
   have e6:(10:Int) ^ Int.toNat 6 - 1=999999:=by decide
   have a1:=Int.emod_nonneg (c / 8) (show (999999:Int)≠0 by decide)
   have a2:=Int.emod_lt_of_pos (c / 8) (show (0:Int) < 999999 by decide)
   have a3:=Int.emod_nonneg (c / 8) (show (4:Int)≠0 by decide)
   have a4:=Int.emod_lt_of_pos (c / 8) (show (0:Int) < 4 by decide)
   refine ⟨by decide,?_⟩
   by_cases z:c % 8=7
   · rw [if_pos z]
     refine ⟨⟨by decide,by decide⟩,⟨by decide,by decide,by decide⟩,by decide,?_⟩
     rw [e6]
     exact k _ (by omega) (by omega)
   · rw [if_neg z]
     exact ⟨⟨by decide,by decide⟩,by decide,k _ (by omega) (by omega)⟩
/-! #### _law_roads -/
def sp_law_roads (T:Txt K mg):Sp:=fun vs H Q _=>∃ (a:Addr) (ns:List Int) (m s:Int),vs=[.ref a,.int m,.int s]∧SqL K H a (ns.map V.int)∧1≤m∧m≤24∧0≤s∧s < 4 ∧
 ∀ (l:Addr) (ps:List Addr) (rs:List Road) (H':Hp),H l=none→Same H H'→H' l=some (.lst (ps.map V.ref))→RoadsAt H' ps rs→Good m rs→Q (.ref l) H'
abbrev s_law_roads:Stmt:=top 42
theorem sc_law_roads:FnScope ["script","many","shape","roads","k","part","to","there","back"] ["script","many","shape"] (defScope s_law_roads):=FnScope.of (by kernel_rfl)
theorem n_law_roads__script:NmL (defScope s_law_roads) "script":=.of (by kernel_rfl)
theorem n_law_roads__many:NmL (defScope s_law_roads) "many":=.of (by kernel_rfl)
theorem n_law_roads__shape:NmL (defScope s_law_roads) "shape":=.of (by kernel_rfl)
theorem n_law_roads__roads:NmL (defScope s_law_roads) "roads":=.of (by kernel_rfl)
theorem n_law_roads__k:NmL (defScope s_law_roads) "k":=.of (by kernel_rfl)
theorem n_law_roads__part:NmL (defScope s_law_roads) "part":=.of (by kernel_rfl)
theorem n_law_roads__to:NmL (defScope s_law_roads) "to":=.of (by kernel_rfl)
theorem n_law_roads__there:NmL (defScope s_law_roads) "there":=.of (by kernel_rfl)
theorem n_law_roads__back:NmL (defScope s_law_roads) "back":=.of (by kernel_rfl)
theorem n_law_roads__range:NmG (defScope s_law_roads) "range":=.of (by kernel_rfl)
theorem n_law_roads__law_drawn:NmG (defScope s_law_roads) "_law_drawn":=.of (by kernel_rfl)
theorem n_law_roads__law_toll:NmG (defScope s_law_roads) "_law_toll":=.of (by kernel_rfl)

theorem ok_law_roads (T:Txt K mg) (hq:Quiet (CXe P w)) {f:Addr} {fd:FuncData} (D:Df K mg "_law_roads" s_law_roads ["script","many","shape"] f fd) {f_law_drawn:Addr} {fd_law_drawn:FuncData} (D_law_drawn:Df K mg "_law_drawn" s_law_drawn ["script","k"] f_law_drawn fd_law_drawn) (G_law_drawn:FnOk P w K mg base (CXe P w) 1 f_law_drawn fd_law_drawn ["script","k"] (sp_law_drawn T)) {f_law_toll:Addr} {fd_law_toll:FuncData} (D_law_toll:Df K mg "_law_toll" s_law_toll ["part"] f_law_toll fd_law_toll) (G_law_toll:FnOk P w K mg base (CXe P w) 1 f_law_toll fd_law_toll ["part"] (sp_law_toll T)):FnOk P w K mg base (CXe P w) 2 f fd ["script","many","shape"] (sp_law_roads T):=by
 refine D.F.okC sc_law_roads (fun vs H Q E h=>?_) (fun cdv A outer s H vs Q E hr h=>?_)
 · obtain ⟨a,ns,m,s,rfl,_⟩:=h
   rfl
 · obtain ⟨a,ns,m,sh,rfl,ha,m1,m24,sh0,sh4,k⟩:=h
   refine ⟨_,(pss_cons (ps_set (i:=3) sc_law_roads.nd rfl (Or.inl n_law_roads__roads.l) (pe_lst pa_nil)) (pss_cons (ps_for PassesOwn.never rfl (pi_range2 n_law_roads__range.g T.range (pa_cons pe_int (pa_cons (pvl 1 n_law_roads__many) pa_nil))) (pg_name (i:=4) sc_law_roads.nd rfl (Or.inl n_law_roads__k.l)) (pss_cons (ps_set (i:=5) sc_law_roads.nd rfl (Or.inl n_law_roads__part.l) (pe_call G_law_drawn (hr.mono (by decide)) n_law_roads__law_drawn.g D_law_drawn.m D_law_drawn.F.kp D_law_drawn.b .nil (passQ hq) (pa_cons (pvl 0 n_law_roads__script) (pa_cons (pvl 4 n_law_roads__k) pa_nil)) (hdb:=n_law_roads__law_drawn.d))) (pss_cons (ps_set (i:=6) sc_law_roads.nd rfl (Or.inl n_law_roads__to.l) (pe_ix ix_list (pe_lst (pa_cons (pe_op op_mod (pvl 5 n_law_roads__part) (pvl 4 n_law_roads__k)) (pa_cons (pe_op op_sub (pvl 4 n_law_roads__k) pe_int) (pa_cons pe_int (pa_cons (pe_op op_mod (pvl 5 n_law_roads__part) (pvl 4 n_law_roads__k)) pa_nil))))) (pvl 2 n_law_roads__shape) (fun _ _=>rfl))) (pss_cons (ps_set (i:=5) sc_law_roads.nd rfl (Or.inl n_law_roads__part.l) (pe_op op_fdiv (pvl 5 n_law_roads__part) (pvl 4 n_law_roads__k))) (pss_cons (ps_set (i:=7) sc_law_roads.nd rfl (Or.inl n_law_roads__there.l) (pe_call G_law_toll (hr.mono (by decide)) n_law_roads__law_toll.g D_law_toll.m D_law_toll.F.kp D_law_toll.b .nil (passQ hq) (pa_cons (pe_op op_mod (pvl 5 n_law_roads__part) (pe_op op_pow pe_int pe_int)) pa_nil) (hdb:=n_law_roads__law_toll.d))) (pss_cons (ps_set (i:=8) sc_law_roads.nd rfl (Or.inl n_law_roads__back.l) (pe_call G_law_toll (hr.mono (by decide)) n_law_roads__law_toll.g D_law_toll.m D_law_toll.F.kp D_law_toll.b .nil (passQ hq) (pa_cons (pe_op op_mod (pe_op op_fdiv (pvl 5 n_law_roads__part) (pe_op op_pow pe_int pe_int)) (pe_op op_pow pe_int pe_int)) pa_nil) (hdb:=n_law_roads__law_toll.d))) (pss_cons (ps_if (pt_cmpR op_eq (pe_op op_mod (pe_op op_fdivB (pvl 5 n_law_roads__part) (pe_op op_pow pe_int pe_int)) pe_int) pe_int (nomark _)) (pss_one (ps_set (i:=8) sc_law_roads.nd rfl (Or.inl n_law_roads__back.l) (pvl 7 n_law_roads__there))) pss_nil) (pss_one (ps_if (pt_cmpR op_eq (pe_op op_mod (pe_op op_fdivB (pvl 5 n_law_roads__part) (pe_op op_pow pe_int pe_int)) pe_int) pe_int (nomark _)) (pss_one (ps_expr (pe_bm PySem.F.plainAttrs_list PySem.F.slot_list_append PySem.F.type_list_append mt_append (pvl 3 n_law_roads__roads) (pa_cons (pe_tup (pa_cons (pvl 6 n_law_roads__to) (pa_cons (pvl 4 n_law_roads__k) (pa_cons (pvl 7 n_law_roads__there) (pa_cons (pvl 8 n_law_roads__back) pa_nil))))) pa_nil)))) (pss_one (ps_expr (pe_bm PySem.F.plainAttrs_list PySem.F.slot_list_insert PySem.F.type_list_insert mt_insert (pvl 3 n_law_roads__roads) (pa_cons pe_int (pa_cons (pe_tup (pa_cons (pvl 4 n_law_roads__k) (pa_cons (pvl 6 n_law_roads__to) (pa_cons (pvl 8 n_law_roads__back) (pa_cons (pvl 7 n_law_roads__there) pa_nil))))) pa_nil)))))))))))))) (pss_one (ps_ret (pvl 3 n_law_roads__roads))))),?_⟩
   rw [show L2.start ["script","many","shape","roads","k","part","to","there","back"] [V.ref a,V.int m,V.int sh]=[some (V.ref a),some (V.int m),some (V.int sh),none,none,none,none,none,none] from rfl]
   walk_at "rd"
   refine ⟨by decide,fun lo nlo=>⟨1,m,⟨rfl,rfl⟩,⟨by decide,by decide,by omega,by omega⟩,?_⟩⟩
   refine for_rangeN (fun i σ H3=>∃ (ps:List Addr) (rs:List Road) (rows:List Row) (v4 v5 v6 v7 v8:Option V),σ=[some (V.ref a),some (V.int m),some (V.int sh),some (V.ref lo),v4,v5,v6,v7,v8]∧Same H H3∧H3 lo=some (.lst (ps.map V.ref))∧RoadsAt H3 ps rs∧Rows i rows∧Put (below m.toNat) rows rs) ⟨[],[],[],_,_,_,_,_,rfl,Same.new _ nlo,upd_same,.nil,⟨rfl,fun i r h=>by cases h⟩,Put.nil _⟩ ?_ ?_
   · rintro i σ H3 N hN hi ⟨ps,rs,rows,v4,v5,v6,v7,v8,rfl,s3,hl3,ro3,R,P⟩
     have k0:(1:Int)≤1 + (i:Int):=by omega
     have k1:1 + (i:Int) < m:=by omega
     generalize hk:(1:Int) + (i:Int)=kk at k0 k1 ⊢
     have psl:ps.length=rs.length:=Paired.length ro3
     have rl:=R.len
     have pl:=P.len
     walk_at "rd"
     refine ⟨a,ns,kk,rfl,Same.seq s3 ha,by omega,by omega,fun c c0=>?_⟩
     have em:∀ (x n:Int),0 < n→0≤x % n∧x % n < n:=fun x n h=>⟨Int.emod_nonneg x (Int.ne_of_gt h),Int.emod_lt_of_pos x h⟩
     have hg:=em c kk (by omega)
     have cp9:CPow 10 9:=⟨by decide,by decide,by decide⟩
     have e9:(10:Int) ^ Int.toNat 9=1000000000:=by decide
     have e18:(10:Int) ^ Int.toNat 18=1000000000000000000:=by decide
     have e19:(10:Int) ^ Int.toNat 19=10000000000000000000:=by decide
     refine ⟨c,rfl,by omega,c,rfl,by omega,smallE (by simp),fun q1 hq1=>?_⟩
     have s4:=Same.new (.lst [.int (c % kk),.int (kk - 1),.int 0,.int (c % kk)]) hq1
     obtain ⟨un,hun,u0,u1⟩:∃ un:Int,atI [V.int (c % kk),V.int (kk - 1),V.int 0,V.int (c % kk)] sh=some (.int un)∧0≤un∧un < kk:=by
       rcases (show sh=0∨sh=1∨sh=2∨sh=3 by omega) with z | z | z | z
       · exact ⟨_,by rw [z]; rfl,hg.1,hg.2⟩
       · exact ⟨_,by rw [z]; rfl,by omega,by omega⟩
       · exact ⟨_,by rw [z]; rfl,by omega,by omega⟩
       · exact ⟨_,by rw [z]; rfl,hg.1,hg.2⟩
     refine ixL upd_same hun ?_
     generalize upd H3 q1 (.lst [.int (c % kk),.int (kk - 1),.int 0,.int (c % kk)])=H4 at s4 ⊢
     rw [e9,e18,e19]
     refine ⟨c,rfl,⟨by omega,by omega⟩,cp9,by decide,_,rfl,fun th t0 t1=>⟨cp9,⟨by decide,by decide⟩,cp9,by decide,_,rfl,fun bk b0 b1=>⟨⟨by decide,by decide,by decide⟩,⟨by decide,by decide⟩,by decide,?_⟩⟩⟩
     have hl4:=s4 _ _ hl3
     have ro4:=RoadsAt.same s4 ro3
     have lu:=below_getD (n:=m.toNat) u0 (by omega)
     have lk:=below_getD (n:=m.toNat) (show 0≤kk by omega) (by omega)
     have keep:∀ {H7:Hp} {zs:List V} {q:Addr} {r':Road},Same H3 H7→H7 q=some (.tup (vRoad r'))→upd H7 lo (.lst zs) q=some (.tup (vRoad r')):=fun {H7 zs q r'} s7 h=>by rw [upd_ne (ne_of h (s7 _ _ hl3) (by intro z; cases z))]; exact h
     have fin:∀ (H7:Hp) (q:Addr) (row:Row) (n:Nat) (v5 v6 v7 v8:Option V),Same H3 H7→row.k=kk→RowOk row→H7 q=some (.tup (vRoad (roadOf (below m.toNat) row)))→N [some (V.ref a),some (V.int m),some (V.int sh),some (V.ref lo),some (V.int kk),v5,v6,v7,v8] (upd H7 lo (.lst ((ps.take n ++ q :: ps.drop n).map V.ref))):=by
       intro H7 q row n v5 v6 v7 v8 s7 rk rok hq
       refine hN _ _ ⟨_,rs.take n ++ roadOf (below m.toNat) row :: rs.drop n,rows ++ [row],_,_,_,_,_,rfl,(s3.trans s7).put nlo _,upd_same,?_,rows_snoc R (by omega) rok,P.step row n⟩
       exact pr_ins n (Paired.imp' (fun p r h=>keep s7 h) (RoadsAt.same s7 ro3)) (keep s7 hq)
     have app:∀ (H7:Hp) (q:Addr) (row:Row) (v5 v6 v7 v8:Option V),Same H3 H7→row.k=kk→RowOk row→H7 q=some (.tup (vRoad (roadOf (below m.toNat) row)))→rAppend (V.ref lo) [V.ref q] H7 fun _ H1=>N [some (V.ref a),some (V.int m),some (V.int sh),some (V.ref lo),some (V.int kk),v5,v6,v7,v8] H1:=fun H7 q row v5 v6 v7 v8 s7 rk rok hq=>by
       refine appR (s7 _ _ hl3) (small (by rw [List.length_map]; omega)) ?_
       have:=fin H7 q row ps.length v5 v6 v7 v8 s7 rk rok hq
       rw [List.take_length,List.drop_length,List.map_append] at this
       exact this
     have ins:∀ (H7:Hp) (q:Addr) (row:Row) (v5 v6 v7 v8:Option V),Same H3 H7→row.k=kk→RowOk row→H7 q=some (.tup (vRoad (roadOf (below m.toNat) row)))→rInsert (V.ref lo) [V.int 0,V.ref q] H7 fun _ H1=>N [some (V.ref a),some (V.int m),some (V.int sh),some (V.ref lo),some (V.int kk),v5,v6,v7,v8] H1:=fun H7 q row v5 v6 v7 v8 s7 rk rok hq=>by
       refine insR (s7 _ _ hl3) (Int.le_refl _) (by omega) (small (by rw [List.length_map]; omega)) ?_
       have:=fin H7 q row 0 v5 v6 v7 v8 s7 rk rok hq
       rw [List.take_zero,List.drop_zero,List.nil_append] at this
       exact this
     have e1:∀ x y:Int,vRoad (roadOf (below m.toNat) ⟨kk,un,x,y,1,0⟩)=[V.int un,V.int kk,V.int x,V.int y]:=fun x y=>by
       unfold roadOf
       rw [if_pos rfl]
       show [V.int ((below m.toNat).getD un.toNat 0),V.int ((below m.toNat).getD kk.toNat 0),V.int x,V.int y]=_
       rw [lu,lk]
     have e2:∀ x y:Int,vRoad (roadOf (below m.toNat) ⟨kk,un,x,y,0,0⟩)=[V.int kk,V.int un,V.int x,V.int y]:=fun x y=>by
       unfold roadOf
       rw [if_neg (show ¬ (0:Int)=1 by decide)]
       show [V.int ((below m.toNat).getD kk.toNat 0),V.int ((below m.toNat).getD un.toNat 0),V.int x,V.int y]=_
       rw [lu,lk]
     have okR:∀ (x y w:Int),2≤x→x≤1000000→2≤y→y≤1000000→RowOk ⟨kk,un,x,y,w,0⟩:=fun x y w a b c d=>⟨u0,u1,a,b,c,d,Int.le_refl _,by show (0:Int) < kk; omega⟩
     have both:∀ (th bk:Int) (v5 v7 v8:Option V),2≤th→th≤1000000→2≤bk→bk≤1000000→(tyV K "list" (V.ref lo) H4∧[V.int un,V.int kk,V.int th,V.int bk].length≤sizeLine∧∀ p,H4 p=none→rAppend (V.ref lo) [V.ref p] (upd H4 p (.tup [V.int un,V.int kk,V.int th,V.int bk])) fun _ H1=>N [some (V.ref a),some (V.int m),some (V.int sh),some (V.ref lo),some (V.int kk),v5,some (V.int un),v7,v8] H1)∧(tyV K "list" (V.ref lo) H4∧[V.int kk,V.int un,V.int bk,V.int th].length≤sizeLine∧∀ p,H4 p=none→rInsert (V.ref lo) [V.int 0,V.ref p] (upd H4 p (.tup [V.int kk,V.int un,V.int bk,V.int th])) fun _ H1=>N [some (V.ref a),some (V.int m),some (V.int sh),some (V.ref lo),some (V.int kk),v5,some (V.int un),v7,v8] H1):=fun th bk v5 v7 v8 t0 t1 b0 b1 =>
       ⟨⟨tyL hl4,smallE (by simp),fun p hp=>app _ p ⟨kk,un,th,bk,1,0⟩ _ _ _ _ (s4.trans (Same.new _ hp)) rfl (okR _ _ _ t0 t1 b0 b1) (by rw [upd_same,e1])⟩,⟨tyL hl4,smallE (by simp),fun p hp=>ins _ p ⟨kk,un,bk,th,0,0⟩ _ _ _ _ (s4.trans (Same.new _ hp)) rfl (okR _ _ _ b0 b1 t0 t1) (by rw [upd_same,e2])⟩⟩
     by_cases y1:c / kk / 1000000000000000000 % 3=0
     · rw [if_pos y1]
       refine ⟨⟨by decide,by decide,by decide⟩,⟨by decide,by decide⟩,by decide,?_⟩
       by_cases y2:c / kk / 10000000000000000000 % 2=0
       · rw [if_pos y2]
         exact (both th th _ _ _ t0 t1 t0 t1).1
       · rw [if_neg y2]
         exact (both th th _ _ _ t0 t1 t0 t1).2
     · rw [if_neg y1]
       refine ⟨⟨by decide,by decide,by decide⟩,⟨by decide,by decide⟩,by decide,?_⟩
       by_cases y2:c / kk / 10000000000000000000 % 2=0
       · rw [if_pos y2]
         exact (both th bk _ _ _ t0 t1 b0 b1).1
       · rw [if_neg y2]
         exact (both th bk _ _ _ t0 t1 b0 b1).2
   · rintro σ H3 ⟨ps,rs,rows,v4,v5,v6,v7,v8,rfl,s3,hl3,ro3,R,P⟩
     have g:=good_of (n:=m.toNat) (by omega) (by omega) (below_labels _) (by rw [show m.toNat - 1=(m - 1).toNat by omega]; exact R) P
     rw [Int.toNat_of_nonneg (by omega)] at g
     walk_at "rd"
     exact k lo ps rs H3 nlo s3 hl3 ro3 g
/-! #### _law_web -/
def sp_law_web (T:Txt K mg):Sp:=fun vs H Q _=>∃ (a:Addr) (ns:List Int) (z:Int),vs=[.ref a,.int z]∧SqL K H a (ns.map V.int)∧1≤z∧z≤24 ∧
 ∀ (t l:Addr) (m:Int) (ps:List Addr) (rs:List Road) (H':Hp),H t=none→H l=none→Same H H'→H' t=some (.tup [.int m,.ref l])→H' l=some (.lst (ps.map V.ref))→RoadsAt H' ps rs→Good m rs→Q (.ref t) H'
abbrev s_law_web:Stmt:=top 43
theorem sc_law_web:FnScope ["script","reach","head","many"] ["script","reach"] (defScope s_law_web):=FnScope.of (by kernel_rfl)
theorem n_law_web__script:NmL (defScope s_law_web) "script":=.of (by kernel_rfl)
theorem n_law_web__reach:NmL (defScope s_law_web) "reach":=.of (by kernel_rfl)
theorem n_law_web__head:NmL (defScope s_law_web) "head":=.of (by kernel_rfl)
theorem n_law_web__many:NmL (defScope s_law_web) "many":=.of (by kernel_rfl)
theorem n_law_web__law_drawn:NmG (defScope s_law_web) "_law_drawn":=.of (by kernel_rfl)
theorem n_law_web__law_roads:NmG (defScope s_law_web) "_law_roads":=.of (by kernel_rfl)

theorem ok_law_web (T:Txt K mg) (hq:Quiet (CXe P w)) {f:Addr} {fd:FuncData} (D:Df K mg "_law_web" s_law_web ["script","reach"] f fd) {f_law_drawn:Addr} {fd_law_drawn:FuncData} (D_law_drawn:Df K mg "_law_drawn" s_law_drawn ["script","k"] f_law_drawn fd_law_drawn) (G_law_drawn:FnOk P w K mg base (CXe P w) 1 f_law_drawn fd_law_drawn ["script","k"] (sp_law_drawn T)) {f_law_roads:Addr} {fd_law_roads:FuncData} (D_law_roads:Df K mg "_law_roads" s_law_roads ["script","many","shape"] f_law_roads fd_law_roads) (G_law_roads:FnOk P w K mg base (CXe P w) 2 f_law_roads fd_law_roads ["script","many","shape"] (sp_law_roads T)):FnOk P w K mg base (CXe P w) 3 f fd ["script","reach"] (sp_law_web T):=by
 refine D.F.okC sc_law_web (fun vs H Q E h=>?_) (fun cdv A outer s H vs Q E hr h=>?_)
 · obtain ⟨a,ns,z,rfl,_⟩:=h
   rfl
 · obtain ⟨a,ns,z,rfl,ha,z1,z24,k⟩:=h
   refine ⟨_,(pss_cons (ps_set (i:=2) sc_law_web.nd rfl (Or.inl n_law_web__head.l) (pe_op op_fdiv (pe_call G_law_drawn (hr.mono (by decide)) n_law_web__law_drawn.g D_law_drawn.m D_law_drawn.F.kp D_law_drawn.b .nil (passQ hq) (pa_cons (pvl 0 n_law_web__script) (pa_cons pe_int pa_nil)) (hdb:=n_law_web__law_drawn.d)) pe_int)) (pss_cons (ps_set (i:=3) sc_law_web.nd rfl (Or.inl n_law_web__many.l) (pe_op op_add pe_int (pe_op op_mod (pvl 2 n_law_web__head) (pvl 1 n_law_web__reach)))) (pss_cons (ps_if (pt_cmpR op_eq (pe_op op_mod (pe_op op_fdiv (pvl 2 n_law_web__head) (pvl 1 n_law_web__reach)) pe_int) pe_int (nomark _)) (pss_one (ps_set (i:=3) sc_law_web.nd rfl (Or.inl n_law_web__many.l) (pe_op op_add pe_int (pe_op op_mod (pe_op op_fdiv (pvl 2 n_law_web__head) (pe_op op_mul pe_int (pvl 1 n_law_web__reach))) pe_int)))) pss_nil) (pss_one (ps_ret (pe_tup (pa_cons (pvl 3 n_law_web__many) (pa_cons (pe_call G_law_roads (hr.mono (by decide)) n_law_web__law_roads.g D_law_roads.m D_law_roads.F.kp D_law_roads.b .nil (passQ hq) (pa_cons (pvl 0 n_law_web__script) (pa_cons (pvl 3 n_law_web__many) (pa_cons (pe_op op_mod (pe_op op_fdiv (pvl 2 n_law_web__head) pe_int) pe_int) pa_nil))) (hdb:=n_law_web__law_roads.d)) pa_nil)))))))),?_⟩
   rw [show L2.start ["script","reach","head","many"] [V.ref a,V.int z]=[some (V.ref a),some (V.int z),none,none] from rfl]
   have em:∀ (x n:Int),0 < n→0≤x % n∧x % n < n:=fun x n h=>⟨Int.emod_nonneg x (Int.ne_of_gt h),Int.emod_lt_of_pos x h⟩
   walk_at "rd"
   refine ⟨a,ns,0,rfl,ha,by decide,by decide,fun c c0=>⟨c,rfl,⟨by decide,by decide⟩,by omega,⟨by omega,by omega⟩,by decide,?_⟩⟩
   have h1:=em (c / 2) z (by omega)
   have h2:=em (c / 2 / (12 * z)) 24 (by decide)
   have h3:=em (c / 2 / 300) 4 (by decide)
   apply if_join (1 + c / 2 / (12 * z) % 24) (1 + c / 2 % z)
   · generalize 1 + c / 2 % z=m
     intro h
     exact h
   · exact fun h=>⟨.inl ⟨by decide,by decide⟩,⟨by omega,by omega⟩,by decide,h⟩
   intro m hm
   have m1:1≤m:=by omega
   have m24:m≤24:=by omega
   clear hm
   refine ⟨⟨by decide,by decide⟩,by decide,?_⟩
   refine ⟨a,ns,m,_,rfl,ha,m1,m24,h3.1,h3.2,fun l ps rs H1 nl s1 el ro g=>⟨smallE (by simp),fun t nt=>?_⟩⟩
   have s2:=Same.new (.tup [.int m,.ref l]) nt
   exact k t l m ps rs _ (s1.free nt) nl (s1.trans s2) upd_same (s2 _ _ el) (RoadsAt.same s2 ro) g
/-! #### _law_wish -/
def sp_law_wish (T:Txt K mg):Sp:=fun vs H Q _=>∃ (a:Addr) (ns:List Int) (m b:Int),vs=[.ref a,.int m,.int b]∧SqL K H a (ns.map V.int)∧ns.length≤63∧1≤m∧m≤24∧1≤b∧∀ (l:Addr) (xs:List Int) (H':Hp),H l=none→Same H H'→H' l=some (.lst (xs.map V.int))→(xs.length:Int)=m→(∀ x∈xs,0≤x)→Q (.ref l) H'
abbrev s_law_wish:Stmt:=top 49
theorem sc_law_wish:FnScope ["script","many","bound","wish","k","place"] ["script","many","bound"] (defScope s_law_wish):=FnScope.of (by kernel_rfl)
theorem n_law_wish__script:NmL (defScope s_law_wish) "script":=.of (by kernel_rfl)
theorem n_law_wish__many:NmL (defScope s_law_wish) "many":=.of (by kernel_rfl)
theorem n_law_wish__bound:NmL (defScope s_law_wish) "bound":=.of (by kernel_rfl)
theorem n_law_wish__wish:NmL (defScope s_law_wish) "wish":=.of (by kernel_rfl)
theorem n_law_wish__k:NmL (defScope s_law_wish) "k":=.of (by kernel_rfl)
theorem n_law_wish__place:NmL (defScope s_law_wish) "place":=.of (by kernel_rfl)
theorem n_law_wish__range:NmG (defScope s_law_wish) "range":=.of (by kernel_rfl)
theorem n_law_wish__len:NmG (defScope s_law_wish) "len":=.of (by kernel_rfl)
theorem n_law_wish__law_drawn:NmG (defScope s_law_wish) "_law_drawn":=.of (by kernel_rfl)

theorem ok_law_wish (T:Txt K mg) (hq:Quiet (CXe P w)) {f:Addr} {fd:FuncData} (D:Df K mg "_law_wish" s_law_wish ["script","many","bound"] f fd) {f_law_drawn:Addr} {fd_law_drawn:FuncData} (D_law_drawn:Df K mg "_law_drawn" s_law_drawn ["script","k"] f_law_drawn fd_law_drawn) (G_law_drawn:FnOk P w K mg base (CXe P w) 1 f_law_drawn fd_law_drawn ["script","k"] (sp_law_drawn T)):FnOk P w K mg base (CXe P w) 2 f fd ["script","many","bound"] (sp_law_wish T):=by
 refine D.F.okC sc_law_wish (fun vs H Q E h=>?_) (fun cdv A outer s H vs Q E hr h=>?_)
 · obtain ⟨a,ns,m,b,rfl,_⟩:=h
   rfl
 · obtain ⟨a,ns,m,b,rfl,ha,hn,m0,m1,b0,k⟩:=h
   refine ⟨_,(pss_cons (ps_set (i:=3) sc_law_wish.nd rfl (Or.inl n_law_wish__wish.l) (pe_op op_rep (pe_lst (pa_cons pe_int pa_nil)) (pvl 1 n_law_wish__many))) (pss_cons (ps_for PassesOwn.never rfl (pi_range2 n_law_wish__range.g T.range (pa_cons (pvl 1 n_law_wish__many) (pa_cons (pe_callB call_len_seq n_law_wish__len.g T.len pb_len (pa_cons (pvl 0 n_law_wish__script) pa_nil) (hn:=n_law_wish__len.n) (hdb:=n_law_wish__len.d)) pa_nil))) (pg_name (i:=4) sc_law_wish.nd rfl (Or.inl n_law_wish__k.l)) (pss_one (ps_if (pt_cmpR op_eq (pe_op op_mod (pvl 4 n_law_wish__k) pe_int) pe_int (nomark _)) (pss_cons (ps_set (i:=5) sc_law_wish.nd rfl (Or.inl n_law_wish__place.l) (pe_op op_mod (pe_call G_law_drawn (hr.mono (by decide)) n_law_wish__law_drawn.g D_law_drawn.m D_law_drawn.F.kp D_law_drawn.b .nil (passQ hq) (pa_cons (pvl 0 n_law_wish__script) (pa_cons (pvl 4 n_law_wish__k) pa_nil)) (hdb:=n_law_wish__law_drawn.d)) (pvl 1 n_law_wish__many))) (pss_one (ps_asg (pe_op op_mod (pe_op op_fdiv (pe_call G_law_drawn (hr.mono (by decide)) n_law_wish__law_drawn.g D_law_drawn.m D_law_drawn.F.kp D_law_drawn.b .nil (passQ hq) (pa_cons (pvl 0 n_law_wish__script) (pa_cons (pvl 4 n_law_wish__k) pa_nil)) (hdb:=n_law_wish__law_drawn.d)) (pvl 1 n_law_wish__many)) (pe_ix ix_list (pe_lst (pa_cons (pvl 2 n_law_wish__bound) (pa_cons pe_int (pa_cons pe_int pa_nil)))) (pe_op op_mod (pe_op op_fdiv (pvl 4 n_law_wish__k) pe_int) pe_int) (fun _ _=>rfl))) (pg_sub (pvl 3 n_law_wish__wish) (pvl 5 n_law_wish__place) set_list)))) pss_nil))) (pss_one (ps_ret (pvl 3 n_law_wish__wish))))),?_⟩
   rw [show L2.start ["script","many","bound","wish","k","place"] [V.ref a,V.int m,V.int b]=[some (V.ref a),some (V.int m),some (V.int b),none,none,none] from rfl]
   walk_at "rd"
   refine ⟨smallE (by simp),fun l0 n0=>?_⟩
   refine ⟨l0,m,_,rfl,rfl,upd_same,by omega,by omega,smallE (by simp; omega),fun l n1=>?_⟩
   rw [flatR]
   have s0:Same H (upd H l0 (.lst [.int 0])):=Same.new _ n0
   have s1:=s0.trans (Same.new (.lst (List.replicate m.toNat (V.int 0))) n1)
   have nl:=s0.free n1
   refine ⟨_,.inl (Same.seq s1 ha),m,_,⟨rfl,rfl⟩,⟨by omega,by omega,by omega,by rw [List.length_map]; omega⟩,?_⟩
   rw [List.length_map]
   have e1:upd (upd H l0 (.lst [.int 0])) l (.lst (List.replicate m.toNat (V.int 0))) l=some (.lst ((List.replicate m.toNat (0:Int)).map V.int)):=by rw [upd_same,List.map_replicate]
   generalize upd (upd H l0 (.lst [.int 0])) l (.lst (List.replicate m.toNat (V.int 0)))=H1 at s1 e1 ⊢
   refine for_rangeN (fun i σ H2=>Same H H2∧∃ (xs:List Int) (v4 v5:Option V),H2 l=some (.lst (xs.map V.int))∧(xs.length:Int)=m∧(∀ x∈xs,0≤x)∧σ=[some (.ref a),some (.int m),some (.int b),some (.ref l),v4,v5]) ⟨s1,_,_,_,e1,by rw [List.length_replicate]; omega,fun x hx=>by rw [(List.mem_replicate.mp hx).2]; decide,rfl⟩ ?_ ?_
   · rintro i σ H2 N hN hi ⟨s2,xs,v4,v5,e2,xl,x0,rfl⟩
     have i0:0≤m + (i:Int):=by omega
     have i1:m + (i:Int)≤1000:=by omega
     generalize m + (i:Int)=j at i0 i1 ⊢
     have sa:=Same.seq s2 ha
     walk_at "rd"
     refine ⟨by decide,?_⟩
     by_cases z:j % 2=1
     · rw [if_pos z]
       refine ⟨a,ns,j,rfl,sa,i0,i1,fun c c0=>⟨c,rfl,by omega,?_⟩⟩
       have h1:=Int.emod_nonneg c (show m≠0 by omega)
       have h2:=Int.emod_lt_of_pos c (show 0 < m by omega)
       generalize c % m=p at h1 h2 ⊢
       refine ⟨a,ns,j,rfl,sa,i0,i1,fun c' c0'=>?_⟩
       refine ⟨c',rfl,⟨by omega,by omega⟩,smallE (by simp),fun q nq=>⟨⟨by decide,by decide⟩,by decide,?_⟩⟩
       have s3:=Same.new (.lst [V.int b,V.int 3,V.int 2]) nq
       obtain ⟨w,hw,w0⟩:∃ w:Int,atI [V.int b,V.int 3,V.int 2] (j / 2 % 3)=some (.int w)∧0 < w:=by
         rcases (show j / 2 % 3=0∨j / 2 % 3=1∨j / 2 % 3=2 by omega) with z | z | z
         · exact ⟨_,by rw [z]; rfl,b0⟩
         · exact ⟨_,by rw [z]; rfl,by decide⟩
         · exact ⟨_,by rw [z]; rfl,by decide⟩
       refine ixL upd_same hw ⟨w,rfl,w0,setR (s3 _ _ e2) h1 (by rw [List.length_map]; omega) (hN _ _ ⟨(s2.trans s3).put nl _,xs.set p.toNat (c' / m % w),_,_,by rw [upd_same,List.map_set],by rw [List.length_set]; exact xl,ge_set x0 (Int.emod_nonneg _ (by omega)),rfl⟩)⟩
     · rw [if_neg z]
       exact hN _ _ ⟨s2,xs,_,_,e2,xl,x0,rfl⟩
   · rintro σ H2 ⟨s2,xs,v4,v5,e2,xl,x0,rfl⟩
     exact ⟨_,rfl,k l xs H2 nl s2 e2 xl x0⟩
/-! #### law -/
def spLaw (K:PySem.W.Frag):Sp:=fun vs H Q _=>∃ (a:Addr) (ns:List Int),vs=[.ref a]∧SqL K H a (ns.map V.int)∧ns.length≤63∧∀ H',Q (.bl true) H'
def sp_law (T:Txt K mg):Sp:=spLaw K
abbrev s_law:Stmt:=top 56
theorem sc_law:FnScope ["script","many","roads","web","tolls","bound","laying","wish","met","r"] ["script"] (defScope s_law):=FnScope.of (by kernel_rfl)
theorem n_law__script:NmL (defScope s_law) "script":=.of (by kernel_rfl)
theorem n_law__many:NmL (defScope s_law) "many":=.of (by kernel_rfl)
theorem n_law__roads:NmL (defScope s_law) "roads":=.of (by kernel_rfl)
theorem n_law__web:NmL (defScope s_law) "web":=.of (by kernel_rfl)
theorem n_law__tolls:NmL (defScope s_law) "tolls":=.of (by kernel_rfl)
theorem n_law__bound:NmL (defScope s_law) "bound":=.of (by kernel_rfl)
theorem n_law__laying:NmL (defScope s_law) "laying":=.of (by kernel_rfl)
theorem n_law__wish:NmL (defScope s_law) "wish":=.of (by kernel_rfl)
theorem n_law__met:NmL (defScope s_law) "met":=.of (by kernel_rfl)
theorem n_law__r:NmL (defScope s_law) "r":=.of (by kernel_rfl)
theorem n_law__law_web:NmG (defScope s_law) "_law_web":=.of (by kernel_rfl)
theorem n_law__Web:NmG (defScope s_law) "Web":=.of (by kernel_rfl)
theorem n_law__list:NmG (defScope s_law) "list":=.of (by kernel_rfl)
theorem n_law__law_tolls:NmG (defScope s_law) "_law_tolls":=.of (by kernel_rfl)
theorem n_law__law_bound:NmG (defScope s_law) "_law_bound":=.of (by kernel_rfl)
theorem n_law__law_laying:NmG (defScope s_law) "_law_laying":=.of (by kernel_rfl)
theorem n_law__law_wish:NmG (defScope s_law) "_law_wish":=.of (by kernel_rfl)
theorem n_law__law_edge:NmG (defScope s_law) "_law_edge":=.of (by kernel_rfl)
theorem n_law__standing:NmG (defScope s_law) "standing":=.of (by kernel_rfl)
theorem n_law__range:NmG (defScope s_law) "range":=.of (by kernel_rfl)
theorem n_law__law_right:NmG (defScope s_law) "_law_right":=.of (by kernel_rfl)
theorem n_law__is_met:NmG (defScope s_law) "is_met":=.of (by kernel_rfl)

theorem ok_law (T:Txt K mg) (hq:Quiet (CXe P w)) {f:Addr} {fd:FuncData} (D:Df K mg "law" s_law ["script"] f fd) {f_Web___init__:Addr} {fd_Web___init__:FuncData} (F_Web___init__:Fun K "__init__" "Web.__init__" s_Web___init__ f_Web___init__ fd_Web___init__) (b_Web:Binds K fd_Web___init__ ["self","many","roads"] []) (M_Web:Mk K T.Web f_Web___init__) (G_Web_init:FnOk P w K mg base (CXe P w) 3 f_Web___init__ fd_Web___init__ ["self","many","roads"] (sp_Web___init__ T)) {f_law_bound:Addr} {fd_law_bound:FuncData} (D_law_bound:Df K mg "_law_bound" s_law_bound ["script"] f_law_bound fd_law_bound) (G_law_bound:FnOk P w K mg base (CXe P w) 2 f_law_bound fd_law_bound ["script"] (sp_law_bound T)) {f_law_edge:Addr} {fd_law_edge:FuncData} (D_law_edge:Df K mg "_law_edge" s_law_edge ["script","tolls","many","laying","wish"] f_law_edge fd_law_edge) (G_law_edge:FnOk P w K mg base (CXe P w) 3 f_law_edge fd_law_edge ["script","tolls","many","laying","wish"] (sp_law_edge T)) {f_law_laying:Addr} {fd_law_laying:FuncData} (D_law_laying:Df K mg "_law_laying" s_law_laying ["script","many","bound"] f_law_laying fd_law_laying) (G_law_laying:FnOk P w K mg base (CXe P w) 2 f_law_laying fd_law_laying ["script","many","bound"] (sp_law_laying T)) {f_law_right:Addr} {fd_law_right:FuncData} (D_law_right:Df K mg "_law_right" s_law_right ["web","tolls","laying","wish","r"] f_law_right fd_law_right) (G_law_right:FnOk P w K mg base (CXe P w) 13 f_law_right fd_law_right ["web","tolls","laying","wish","r"] (sp_law_right T)) {f_law_tolls:Addr} {fd_law_tolls:FuncData} (D_law_tolls:Df K mg "_law_tolls" s_law_tolls ["roads"] f_law_tolls fd_law_tolls) (G_law_tolls:FnOk P w K mg base (CXe P w) 1 f_law_tolls fd_law_tolls ["roads"] (sp_law_tolls T)) {f_law_web:Addr} {fd_law_web:FuncData} (D_law_web:Df K mg "_law_web" s_law_web ["script","reach"] f_law_web fd_law_web) (G_law_web:FnOk P w K mg base (CXe P w) 3 f_law_web fd_law_web ["script","reach"] (sp_law_web T)) {f_law_wish:Addr} {fd_law_wish:FuncData} (D_law_wish:Df K mg "_law_wish" s_law_wish ["script","many","bound"] f_law_wish fd_law_wish) (G_law_wish:FnOk P w K mg base (CXe P w) 2 f_law_wish fd_law_wish ["script","many","bound"] (sp_law_wish T)) {f_is_met:Addr} {fd_is_met:FuncData} (D_is_met:Df K mg "is_met" s_is_met ["web","laying","wish"] f_is_met fd_is_met) (G_is_met:FnOk P w K mg base (CXe P w) 10 f_is_met fd_is_met ["web","laying","wish"] (sp_is_met T)) {f_standing:Addr} {fd_standing:FuncData} (D_standing:Df K mg "standing" s_standing ["web","laying","wish","r"] f_standing fd_standing) (G_standing:FnOk P w K mg base (CXe P w) 9 f_standing fd_standing ["web","laying","wish","r"] (sp_standing T)):FnOk P w K mg base (CXe P w) 14 f fd ["script"] (sp_law T):=by
 refine D.F.okC sc_law (fun vs H Q E h=>?_) (fun cdv A outer s H vs Q E hr h=>?_)
 · obtain ⟨a,ns,rfl,_⟩:=h
   rfl
 · obtain ⟨a,ns,rfl,ha,hn,k⟩:=h
   refine ⟨_,(pss_cons (ps_asg (pe_call G_law_web (hr.mono (by decide)) n_law__law_web.g D_law_web.m D_law_web.F.kp D_law_web.b .nil (passQ hq) (pa_cons (pvl 0 n_law__script) (pa_cons pe_int pa_nil)) (hdb:=n_law__law_web.d)) (pg_tup (n:=2) rfl (pgs_cons (pg_name (i:=1) sc_law.nd rfl (Or.inl n_law__many.l)) (pgs_cons (pg_name (i:=2) sc_law.nd rfl (Or.inl n_law__roads.l)) pgs_nil)))) (pss_cons (ps_set (i:=3) sc_law.nd rfl (Or.inl n_law__web.l) (pe_make M_Web G_Web_init (hr.mono (by decide)) n_law__Web.g T.m_Web b_Web .nil (passQ hq) (pa_cons (pvl 1 n_law__many) (pa_cons (pe_callTy call_list_of n_law__list.g T.list pb_list (pa_cons (pvl 2 n_law__roads) pa_nil) (hn:=n_law__list.n) (hdb:=n_law__list.d)) pa_nil)) (hdb:=n_law__Web.d))) (pss_cons (ps_set (i:=4) sc_law.nd rfl (Or.inl n_law__tolls.l) (pe_call G_law_tolls (hr.mono (by decide)) n_law__law_tolls.g D_law_tolls.m D_law_tolls.F.kp D_law_tolls.b .nil (passQ hq) (pa_cons (pvl 2 n_law__roads) pa_nil) (hdb:=n_law__law_tolls.d))) (pss_cons (ps_set (i:=5) sc_law.nd rfl (Or.inl n_law__bound.l) (pe_call G_law_bound (hr.mono (by decide)) n_law__law_bound.g D_law_bound.m D_law_bound.F.kp D_law_bound.b .nil (passQ hq) (pa_cons (pvl 0 n_law__script) pa_nil) (hdb:=n_law__law_bound.d))) (pss_cons (ps_set (i:=6) sc_law.nd rfl (Or.inl n_law__laying.l) (pe_call G_law_laying (hr.mono (by decide)) n_law__law_laying.g D_law_laying.m D_law_laying.F.kp D_law_laying.b .nil (passQ hq) (pa_cons (pvl 0 n_law__script) (pa_cons (pvl 1 n_law__many) (pa_cons (pvl 5 n_law__bound) pa_nil))) (hdb:=n_law__law_laying.d))) (pss_cons (ps_set (i:=7) sc_law.nd rfl (Or.inl n_law__wish.l) (pe_call G_law_wish (hr.mono (by decide)) n_law__law_wish.g D_law_wish.m D_law_wish.F.kp D_law_wish.b .nil (passQ hq) (pa_cons (pvl 0 n_law__script) (pa_cons (pvl 1 n_law__many) (pa_cons (pvl 5 n_law__bound) pa_nil))) (hdb:=n_law__law_wish.d))) (pss_cons (ps_expr (pe_call G_law_edge (hr.mono (by decide)) n_law__law_edge.g D_law_edge.m D_law_edge.F.kp D_law_edge.b .nil (passQ hq) (pa_cons (pvl 0 n_law__script) (pa_cons (pvl 4 n_law__tolls) (pa_cons (pvl 1 n_law__many) (pa_cons (pvl 6 n_law__laying) (pa_cons (pvl 7 n_law__wish) pa_nil))))) (hdb:=n_law__law_edge.d))) (pss_cons (ps_set (i:=8) sc_law.nd rfl (Or.inl n_law__met.l) (pe_cmpR op_ge (pe_call G_standing (hr.mono (by decide)) n_law__standing.g D_standing.m D_standing.F.kp D_standing.b .nil (passQ hq) (pa_cons (pvl 3 n_law__web) (pa_cons (pvl 6 n_law__laying) (pa_cons (pvl 7 n_law__wish) (pa_cons pe_int pa_nil)))) (hdb:=n_law__standing.d)) pe_int (nomark _))) (pss_cons (ps_for PassesOwn.never rfl (pi_range3 n_law__range.g T.range (pa_cons pe_int (pa_cons (pvl 1 n_law__many) (pa_cons (pe_op op_add pe_int (pe_op op_mul (pe_op op_fdiv (pvl 1 n_law__many) pe_int) pe_int)) pa_nil)))) (pg_name (i:=9) sc_law.nd rfl (Or.inl n_law__r.l)) (pss_one (ps_if (PW.pt (pw_or (pt_cmpR op_ne (pe_cmpR op_ge (pe_call G_standing (hr.mono (by decide)) n_law__standing.g D_standing.m D_standing.F.kp D_standing.b .nil (passQ hq) (pa_cons (pvl 3 n_law__web) (pa_cons (pvl 6 n_law__laying) (pa_cons (pvl 7 n_law__wish) (pa_cons (pvl 9 n_law__r) pa_nil)))) (hdb:=n_law__standing.d)) pe_int (nomark _)) (pvl 8 n_law__met) (nomark _)) (pw_or1 (pt_not (pt_val (pe_call G_law_right (hr.mono (by decide)) n_law__law_right.g D_law_right.m D_law_right.F.kp D_law_right.b .nil (passQ hq) (pa_cons (pvl 3 n_law__web) (pa_cons (pvl 4 n_law__tolls) (pa_cons (pvl 6 n_law__laying) (pa_cons (pvl 7 n_law__wish) (pa_cons (pvl 9 n_law__r) pa_nil))))) (hdb:=n_law__law_right.d))))))) (pss_one (ps_ret pe_bl)) pss_nil))) (pss_one (ps_ret (pe_cmpR op_eq (pe_call G_is_met (hr.mono (by decide)) n_law__is_met.g D_is_met.m D_is_met.F.kp D_is_met.b .nil (passQ hq) (pa_cons (pvl 3 n_law__web) (pa_cons (pvl 6 n_law__laying) (pa_cons (pvl 7 n_law__wish) pa_nil))) (hdb:=n_law__is_met.d)) (pvl 8 n_law__met) (nomark _))))))))))))),?_⟩
   rw [show L2.start ["script","many","roads","web","tolls","bound","laying","wish","met","r"] [V.ref a]=[some (V.ref a),none,none,none,none,none,none,none,none,none] from rfl]
   refine cutS fun N1 h1=>?_
   walk_at "rd"
   refine ⟨a,ns,7,rfl,ha,by decide,by decide,fun t l m ps rs H1 nt nl s1 et el ro g=>?_⟩
   have m1:=g.m1
   have m24:=g.m24
   refine ⟨t,rfl,_,SqT.of et,rfl,_,_,rfl,_,_,rfl,rfl,h1 _ _ (cutS fun N2 h2=>?_)⟩
   walk_at "rd"
   refine ⟨_,.inl (SqL.of el),fun lc nlc=>?_⟩
   have s2:=Same.new (.lst (ps.map V.ref)) nlc
   refine mk_web T (c:=true) (SqL.of upd_same) (RoadsAt.same s2 ro) g fun x tw H2 hx htw s3 W=>?_
   have s23:=s2.trans s3
   have s13:=s1.trans s23
   refine h2 _ _ (cutS fun N3 h3=>?_)
   walk_at "rd"
   refine ⟨l,ps,m,rs,rfl,s23 _ _ el,RoadsAt.same s23 ro,g,fun d H3 nd s4 ta=>h3 _ _ (cutS fun N4 h4=>?_)⟩
   have W3:=W.same s4
   have s14:=s13.trans s4
   walk_at "rd"
   refine ⟨a,ns,rfl,Same.seq s14 ha,fun b H4 b1 s5=>h4 _ _ (cutS fun N5 h5=>?_)⟩
   have s15:=s14.trans s5
   walk_at "rd"
   refine ⟨a,ns,m,b,rfl,Same.seq s15 ha,hn,m1,m24,b1,fun lx xs H5 nx s6 ex xl x0=>h5 _ _ (cutS fun N6 h6=>?_)⟩
   have s16:=s15.trans s6
   walk_at "rd"
   refine ⟨a,ns,m,b,rfl,Same.seq s16 ha,hn,m1,m24,b1,fun ly ys H6 ny s7 ey yl y0=>h6 _ _ (cutS fun N7 h7=>?_)⟩
   have s17:=s16.trans s7
   have ex6:=s7 _ _ ex
   have nyx:ly≠lx:=fun z=>by rw [z,ex] at ny; cases ny
   have W5:=W3.same s5
   have ta5:=ta.same s5
   walk_at "rd"
   refine ⟨a,d,lx,ly,ns,m,rs,xs,ys,rfl,Same.seq s17 ha,ta5.same (s6.trans s7),g,ex6,xl,x0,ey,yl,fun zs H7 zl z0 oth hz=>h7 _ _ (cutS fun N8 h8=>?_)⟩
   have t7:Same H4 H7:=fun q o e=>oth q o (fun z=>by rw [z,nx] at e; cases e) ((s6.trans s7) q o e)
   have W7:=W5.same t7
   have ta7:=ta5.same t7
   have hy7:=oth ly _ nyx ey
   have fx:=filled_of zl z0
   have fy:=filled_of yl y0
   clear t7 oth ex6 ta5 W5 s17 s16 s15 s14 s13 W3
   obtain ⟨par,dep,R⟩:=rooted g (Int.le_refl 0) (show 0 < m by omega)
   walk_at "rd"
   refine ⟨x,lx,ly,tw,true,true,m,ps,rs,zs,ys,0,rfl,W7,SqL.of hz,by omega,SqL.of hy7,by omega,fun _ _ _ _=>⟨par,dep,R,fun H8 s8=>?_⟩,(fun z=>by rw [fx] at z; cases z),(fun _ z=>by rw [fy] at z; cases z),fun _ _ z=>absurd ⟨Int.le_refl _,by omega⟩ z⟩
   refine ⟨_,rfl,h8 _ _ (cutS fun N9 h9=>?_)⟩
   walk_at "rd"
   have c1:0 < 1 + m / 8 * 3:=by omega
   have s00:gat m rs 0 par dep (fun v=>(overL m zs ys).getD v.toNat 0) (hnd rs par) 0=stg m rs 0 par dep ys zs 0:=rfl
   rw [s00]
   have W8:=W7.same s8
   have ta8:=ta7.same s8
   have hz8:=s8 _ _ hz
   have hy8:=s8 _ _ hy7
   refine ⟨⟨by decide,by decide⟩,.inl ⟨by omega,by omega⟩,0,m,_,⟨rfl,rfl,rfl⟩,⟨by decide,by decide,by omega,by omega,c1,by omega⟩,?_⟩
   refine for_rangeS c1 (fun i σ H10=>Same H8 H10∧∃ v9,σ=[some (V.ref a),some (V.int m),some (V.ref l),some (V.ref x),some (V.ref d),some (V.int b),some (V.ref lx),some (V.ref ly),some (V.bl (decide (0≤stg m rs 0 par dep ys zs 0))),v9]) ⟨Same.refl _,_,rfl⟩ ?_ ?_
   · rintro i r σ H10 N hN r0 r1 ⟨s10,v9,rfl⟩
     obtain ⟨par',dep',R'⟩:=rooted g r0 r1
     walk_at "rd"
     refine ⟨x,lx,ly,tw,true,true,m,ps,rs,zs,ys,r,rfl,W8.same s10,SqL.of (s10 _ _ hz8),by omega,SqL.of (s10 _ _ hy8),by omega,fun _ _ _ _=>⟨par',dep',R',fun H11 s11=>⟨_,rfl,?_⟩⟩,(fun z=>by rw [fx] at z; cases z),(fun _ z=>by rw [fy] at z; cases z),fun _ _ z=>absurd ⟨r0,r1⟩ z⟩
     have same:decide (0≤gat m rs r par' dep' (fun v=>(overL m zs ys).getD v.toNat 0) (hnd rs par') r)=decide (0≤stg m rs 0 par dep ys zs 0):=decide_eq_decide.mpr ⟨fun h=>met_any g R' r0 r1 R (Int.le_refl _) (by omega) zl z0 y0 h,fun h=>met_any g R (Int.le_refl _) (by omega) R' r0 r1 zl z0 y0 h⟩
     rw [same,if_neg (fun z=>z rfl)]
     have s811:=s10.trans s11
     refine ⟨x,d,lx,ly,tw,m,r,ps,rs,zs,ys,rfl,W8.same s811,ta8.same s811,s811 _ _ hz8,fx,s811 _ _ hy8,fy,⟨r0,r1⟩,fun H12 s12=>⟨_,rfl,?_⟩⟩
     rw [if_neg (by decide)]
     exact hN _ _ ⟨s811.trans s12,_,rfl⟩
   · rintro n σ H10 ⟨s10,v9,rfl⟩
     refine h9 _ _ ?_
     walk_at "rd"
     refine ⟨x,lx,ly,tw,true,true,m,ps,rs,zs,ys,rfl,W8.same s10,SqL.of (s10 _ _ hz8),by omega,SqL.of (s10 _ _ hy8),by omega,fun _ _=>⟨par,dep,R,fun H11 s11=>?_⟩,(fun z=>by rw [fx] at z; cases z),(fun _ z=>by rw [fy] at z; cases z)⟩
     refine ⟨rfl,?_⟩
     rw [decide_eq_true rfl]
     exact k _
end
theorem quiet0:Quiet CX0:=fun _ _ _ _ _ h=>h
theorem all_mk {l:PySem.W.OpenLaw} {w:World} {K:PySem.W.Frag} {h:Heap} {mg:Str→Option Value} {fa:Addr} {C_BadWeb:Addr} {C_NoPlace:Addr} {C_NoRoad:Addr} {C_BadLaying:Addr} {C_BadWish:Addr} {C_Web:Addr} {xc_NoPlace:Value} {xd_NoPlace:Option Addr} {xk_NoPlace:ClassData} {xs_NoPlace:Array (Option Value)} {qn_NoPlace qq_NoPlace:Str} {qN_NoPlace:Addr} {qb_NoPlace qm_NoPlace:List Value} {qh_NoPlace:Bool} {qs_NoPlace:List Str} {qu_NoPlace:List Value} {qa_NoPlace:Bool} {qc_NoPlace:Option Bool} {qd_NoPlace:Option Addr} {q0_NoPlace q1_NoPlace q2_NoPlace q3_NoPlace q5_NoPlace:Option Value} {xc_NoRoad:Value} {xd_NoRoad:Option Addr} {xk_NoRoad:ClassData} {xs_NoRoad:Array (Option Value)} {qn_NoRoad qq_NoRoad:Str} {qN_NoRoad:Addr} {qb_NoRoad qm_NoRoad:List Value} {qh_NoRoad:Bool} {qs_NoRoad:List Str} {qu_NoRoad:List Value} {qa_NoRoad:Bool} {qc_NoRoad:Option Bool} {qd_NoRoad:Option Addr} {q0_NoRoad q1_NoRoad q2_NoRoad q3_NoRoad q5_NoRoad:Option Value} {xc_BadLaying:Value} {xd_BadLaying:Option Addr} {xk_BadLaying:ClassData} {xs_BadLaying:Array (Option Value)} {qn_BadLaying qq_BadLaying:Str} {qN_BadLaying:Addr} {qb_BadLaying qm_BadLaying:List Value} {qh_BadLaying:Bool} {qs_BadLaying:List Str} {qu_BadLaying:List Value} {qa_BadLaying:Bool} {qc_BadLaying:Option Bool} {qd_BadLaying:Option Addr} {q0_BadLaying q1_BadLaying q2_BadLaying q3_BadLaying q5_BadLaying:Option Value} {xc_BadWish:Value} {xd_BadWish:Option Addr} {xk_BadWish:ClassData} {xs_BadWish:Array (Option Value)} {qn_BadWish qq_BadWish:Str} {qN_BadWish:Addr} {qb_BadWish qm_BadWish:List Value} {qh_BadWish:Bool} {qs_BadWish:List Str} {qu_BadWish:List Value} {qa_BadWish:Bool} {qc_BadWish:Option Bool} {qd_BadWish:Option Addr} {q0_BadWish q1_BadWish q2_BadWish q3_BadWish q5_BadWish:Option Value} {f_check_counts:Addr} {od_check_counts an_check_counts:Option Addr} {sl_check_counts:Array (Option Value)} {oc_check_counts kV_check_counts dc_check_counts pm_check_counts cd_check_counts ct_check_counts:Value} {f_is_place:Addr} {od_is_place an_is_place:Option Addr} {sl_is_place:Array (Option Value)} {oc_is_place kV_is_place dc_is_place pm_is_place cd_is_place ct_is_place:Value} {f_check_ends:Addr} {od_check_ends an_check_ends:Option Addr} {sl_check_ends:Array (Option Value)} {oc_check_ends kV_check_ends dc_check_ends pm_check_ends cd_check_ends ct_check_ends:Value} {f_other_ends:Addr} {od_other_ends an_other_ends:Option Addr} {sl_other_ends:Array (Option Value)} {oc_other_ends kV_other_ends dc_other_ends pm_other_ends cd_other_ends ct_other_ends:Value} {f_check_joined:Addr} {od_check_joined an_check_joined:Option Addr} {sl_check_joined:Array (Option Value)} {oc_check_joined kV_check_joined dc_check_joined pm_check_joined cd_check_joined ct_check_joined:Value} {f_check_tolls:Addr} {od_check_tolls an_check_tolls:Option Addr} {sl_check_tolls:Array (Option Value)} {oc_check_tolls kV_check_tolls dc_check_tolls pm_check_tolls cd_check_tolls ct_check_tolls:Value} {f_Web___init__:Addr} {od_Web___init__ an_Web___init__:Option Addr} {sl_Web___init__:Array (Option Value)} {oc_Web___init__ kV_Web___init__ dc_Web___init__ pm_Web___init__ cd_Web___init__ ct_Web___init__:Value} {f_law_tolls:Addr} {od_law_tolls an_law_tolls:Option Addr} {sl_law_tolls:Array (Option Value)} {oc_law_tolls kV_law_tolls dc_law_tolls pm_law_tolls cd_law_tolls ct_law_tolls:Value} {f_law_drawn:Addr} {od_law_drawn an_law_drawn:Option Addr} {sl_law_drawn:Array (Option Value)} {oc_law_drawn kV_law_drawn dc_law_drawn pm_law_drawn cd_law_drawn ct_law_drawn:Value} {f_law_bound:Addr} {od_law_bound an_law_bound:Option Addr} {sl_law_bound:Array (Option Value)} {oc_law_bound kV_law_bound dc_law_bound pm_law_bound cd_law_bound ct_law_bound:Value} {f_law_down:Addr} {od_law_down an_law_down:Option Addr} {sl_law_down:Array (Option Value)} {oc_law_down kV_law_down dc_law_down pm_law_down cd_law_down ct_law_down:Value} {f_law_standings:Addr} {od_law_standings an_law_standings:Option Addr} {sl_law_standings:Array (Option Value)} {oc_law_standings kV_law_standings dc_law_standings pm_law_standings cd_law_standings ct_law_standings:Value} {f_law_edge:Addr} {od_law_edge an_law_edge:Option Addr} {sl_law_edge:Array (Option Value)} {oc_law_edge kV_law_edge dc_law_edge pm_law_edge cd_law_edge ct_law_edge:Value} {f_law_laying:Addr} {od_law_laying an_law_laying:Option Addr} {sl_law_laying:Array (Option Value)} {oc_law_laying kV_law_laying dc_law_laying pm_law_laying cd_law_laying ct_law_laying:Value} {f_law_covers:Addr} {od_law_covers an_law_covers:Option Addr} {sl_law_covers:Array (Option Value)} {oc_law_covers kV_law_covers dc_law_covers pm_law_covers cd_law_covers ct_law_covers:Value} {f_law_done:Addr} {od_law_done an_law_done:Option Addr} {sl_law_done:Array (Option Value)} {oc_law_done kV_law_done dc_law_done pm_law_done cd_law_done ct_law_done:Value} {f_check_place:Addr} {od_check_place an_check_place:Option Addr} {sl_check_place:Array (Option Value)} {oc_check_place kV_check_place dc_check_place pm_check_place cd_check_place ct_check_place:Value} {f_toll:Addr} {od_toll an_toll:Option Addr} {sl_toll:Array (Option Value)} {oc_toll kV_toll dc_toll pm_toll cd_toll ct_toll:Value} {f_handed_on:Addr} {od_handed_on an_handed_on:Option Addr} {sl_handed_on:Array (Option Value)} {oc_handed_on kV_handed_on dc_handed_on pm_handed_on cd_handed_on ct_handed_on:Value} {f_neighbours:Addr} {od_neighbours an_neighbours:Option Addr} {sl_neighbours:Array (Option Value)} {oc_neighbours kV_neighbours dc_neighbours pm_neighbours cd_neighbours ct_neighbours:Value} {f_kids:Addr} {od_kids an_kids:Option Addr} {sl_kids:Array (Option Value)} {oc_kids kV_kids dc_kids pm_kids cd_kids ct_kids:Value} {f_ahead:Addr} {od_ahead an_ahead:Option Addr} {sl_ahead:Array (Option Value)} {oc_ahead kV_ahead dc_ahead pm_ahead cd_ahead ct_ahead:Value} {f_down:Addr} {od_down an_down:Option Addr} {sl_down:Array (Option Value)} {oc_down kV_down dc_down pm_down cd_down ct_down:Value} {f_inward:Addr} {od_inward an_inward:Option Addr} {sl_inward:Array (Option Value)} {oc_inward kV_inward dc_inward pm_inward cd_inward ct_inward:Value} {f_is_filled:Addr} {od_is_filled an_is_filled:Option Addr} {sl_is_filled:Array (Option Value)} {oc_is_filled kV_is_filled dc_is_filled pm_is_filled cd_is_filled ct_is_filled:Value} {f_laying_of:Addr} {od_laying_of an_laying_of:Option Addr} {sl_laying_of:Array (Option Value)} {oc_laying_of kV_laying_of dc_laying_of pm_laying_of cd_laying_of ct_laying_of:Value} {f_wish_of:Addr} {od_wish_of an_wish_of:Option Addr} {sl_wish_of:Array (Option Value)} {oc_wish_of kV_wish_of dc_wish_of pm_wish_of cd_wish_of ct_wish_of:Value} {f_standings:Addr} {od_standings an_standings:Option Addr} {sl_standings:Array (Option Value)} {oc_standings kV_standings dc_standings pm_standings cd_standings ct_standings:Value} {f_standing:Addr} {od_standing an_standing:Option Addr} {sl_standing:Array (Option Value)} {oc_standing kV_standing dc_standing pm_standing cd_standing ct_standing:Value} {f_is_met:Addr} {od_is_met an_is_met:Option Addr} {sl_is_met:Array (Option Value)} {oc_is_met kV_is_met dc_is_met pm_is_met cd_is_met ct_is_met:Value} {f_lacks_of:Addr} {od_lacks_of an_lacks_of:Option Addr} {sl_lacks_of:Array (Option Value)} {oc_lacks_of kV_lacks_of dc_lacks_of pm_lacks_of cd_lacks_of ct_lacks_of:Value} {f_steps_in:Addr} {od_steps_in an_steps_in:Option Addr} {sl_steps_in:Array (Option Value)} {oc_steps_in kV_steps_in dc_steps_in pm_steps_in cd_steps_in ct_steps_in:Value} {f_steps_out:Addr} {od_steps_out an_steps_out:Option Addr} {sl_steps_out:Array (Option Value)} {oc_steps_out kV_steps_out dc_steps_out pm_steps_out cd_steps_out ct_steps_out:Value} {f_meeting:Addr} {od_meeting an_meeting:Option Addr} {sl_meeting:Array (Option Value)} {oc_meeting kV_meeting dc_meeting pm_meeting cd_meeting ct_meeting:Value} {f_law_is_led:Addr} {od_law_is_led an_law_is_led:Option Addr} {sl_law_is_led:Array (Option Value)} {oc_law_is_led kV_law_is_led dc_law_is_led pm_law_is_led cd_law_is_led ct_law_is_led:Value} {f_law_more:Addr} {od_law_more an_law_more:Option Addr} {sl_law_more:Array (Option Value)} {oc_law_more kV_law_more dc_law_more pm_law_more cd_law_more ct_law_more:Value} {f_law_right:Addr} {od_law_right an_law_right:Option Addr} {sl_law_right:Array (Option Value)} {oc_law_right kV_law_right dc_law_right pm_law_right cd_law_right ct_law_right:Value} {f_law_toll:Addr} {od_law_toll an_law_toll:Option Addr} {sl_law_toll:Array (Option Value)} {oc_law_toll kV_law_toll dc_law_toll pm_law_toll cd_law_toll ct_law_toll:Value} {f_law_roads:Addr} {od_law_roads an_law_roads:Option Addr} {sl_law_roads:Array (Option Value)} {oc_law_roads kV_law_roads dc_law_roads pm_law_roads cd_law_roads ct_law_roads:Value} {f_law_web:Addr} {od_law_web an_law_web:Option Addr} {sl_law_web:Array (Option Value)} {oc_law_web kV_law_web dc_law_web pm_law_web cd_law_web ct_law_web:Value} {f_law_wish:Addr} {od_law_wish an_law_wish:Option Addr} {sl_law_wish:Array (Option Value)} {oc_law_wish kV_law_wish dc_law_wish pm_law_wish cd_law_wish ct_law_wish:Value} {f_law:Addr} {od_law an_law:Option Addr} {sl_law:Array (Option Value)} {oc_law kV_law dc_law pm_law cd_law ct_law:Value} {t_MOST_PLACES:Tok} {t_LEAST_TOLL:Tok} {t_MOST_TOLL:Tok} (X:K.In h) (G:h.Ns mainGlobals mg) (hfa:mg "law"=some (.ref fa))
   (ac_BadWeb:PySem.W.nsIn K mainGlobals "BadWeb"=some (some (.ref C_BadWeb)))
   (ac_NoPlace:PySem.W.nsIn K mainGlobals "NoPlace"=some (some (.ref C_NoPlace)))
   (ac_NoRoad:PySem.W.nsIn K mainGlobals "NoRoad"=some (some (.ref C_NoRoad)))
   (ac_BadLaying:PySem.W.nsIn K mainGlobals "BadLaying"=some (some (.ref C_BadLaying)))
   (ac_BadWish:PySem.W.nsIn K mainGlobals "BadWish"=some (some (.ref C_BadWish)))
   (ac_Web:PySem.W.nsIn K mainGlobals "Web"=some (some (.ref C_Web)))
   (xl_NoPlace:K.lookup C_NoPlace=some ⟨xc_NoPlace,xd_NoPlace,.cls xk_NoPlace,xs_NoPlace⟩)
   (xe_NoPlace:(⟨xc_NoPlace,xd_NoPlace,.cls xk_NoPlace,xs_NoPlace⟩:Obj)=excClassObj qn_NoPlace qq_NoPlace C_NoPlace qN_NoPlace qb_NoPlace qm_NoPlace qh_NoPlace qs_NoPlace qu_NoPlace qa_NoPlace qc_NoPlace qd_NoPlace q0_NoPlace q1_NoPlace q2_NoPlace q3_NoPlace q5_NoPlace "ValueError.__new__")
   (xf_NoPlace:PySem.W.nsOkIn K qN_NoPlace=true)
   (xj_NoPlace:PySem.W.nsIn K qN_NoPlace "__init__"=some none)
   (xp_NoPlace:PySem.W.tailIn K bmV qm_NoPlace=true)
   (xl_NoRoad:K.lookup C_NoRoad=some ⟨xc_NoRoad,xd_NoRoad,.cls xk_NoRoad,xs_NoRoad⟩)
   (xe_NoRoad:(⟨xc_NoRoad,xd_NoRoad,.cls xk_NoRoad,xs_NoRoad⟩:Obj)=excClassObj qn_NoRoad qq_NoRoad C_NoRoad qN_NoRoad qb_NoRoad qm_NoRoad qh_NoRoad qs_NoRoad qu_NoRoad qa_NoRoad qc_NoRoad qd_NoRoad q0_NoRoad q1_NoRoad q2_NoRoad q3_NoRoad q5_NoRoad "ValueError.__new__")
   (xf_NoRoad:PySem.W.nsOkIn K qN_NoRoad=true)
   (xj_NoRoad:PySem.W.nsIn K qN_NoRoad "__init__"=some none)
   (xp_NoRoad:PySem.W.tailIn K bmV qm_NoRoad=true)
   (xl_BadLaying:K.lookup C_BadLaying=some ⟨xc_BadLaying,xd_BadLaying,.cls xk_BadLaying,xs_BadLaying⟩)
   (xe_BadLaying:(⟨xc_BadLaying,xd_BadLaying,.cls xk_BadLaying,xs_BadLaying⟩:Obj)=excClassObj qn_BadLaying qq_BadLaying C_BadLaying qN_BadLaying qb_BadLaying qm_BadLaying qh_BadLaying qs_BadLaying qu_BadLaying qa_BadLaying qc_BadLaying qd_BadLaying q0_BadLaying q1_BadLaying q2_BadLaying q3_BadLaying q5_BadLaying "ValueError.__new__")
   (xf_BadLaying:PySem.W.nsOkIn K qN_BadLaying=true)
   (xj_BadLaying:PySem.W.nsIn K qN_BadLaying "__init__"=some none)
   (xp_BadLaying:PySem.W.tailIn K bmV qm_BadLaying=true)
   (xl_BadWish:K.lookup C_BadWish=some ⟨xc_BadWish,xd_BadWish,.cls xk_BadWish,xs_BadWish⟩)
   (xe_BadWish:(⟨xc_BadWish,xd_BadWish,.cls xk_BadWish,xs_BadWish⟩:Obj)=excClassObj qn_BadWish qq_BadWish C_BadWish qN_BadWish qb_BadWish qm_BadWish qh_BadWish qs_BadWish qu_BadWish qa_BadWish qc_BadWish qd_BadWish q0_BadWish q1_BadWish q2_BadWish q3_BadWish q5_BadWish "ValueError.__new__")
   (xf_BadWish:PySem.W.nsOkIn K qN_BadWish=true)
   (xj_BadWish:PySem.W.nsIn K qN_BadWish "__init__"=some none)
   (xp_BadWish:PySem.W.tailIn K bmV qm_BadWish=true)
   (a_check_counts:PySem.W.nsIn K mainGlobals "check_counts"=some (some (.ref f_check_counts)))
   (l_check_counts:K.lookup f_check_counts=some ⟨oc_check_counts,od_check_counts,.func (PySem.W.fnOf "check_counts" "check_counts" (defArgs s_check_counts) (defBody s_check_counts) (defScope s_check_counts) .none kV_check_counts dc_check_counts pm_check_counts an_check_counts cd_check_counts ct_check_counts),sl_check_counts⟩)
   (c_check_counts:PySem.W.codeIn K cd_check_counts "check_counts"=true)
   (k_check_counts:PySem.W.keepIn K (.ref f_check_counts)=true)
   (a_is_place:PySem.W.nsIn K mainGlobals "is_place"=some (some (.ref f_is_place)))
   (l_is_place:K.lookup f_is_place=some ⟨oc_is_place,od_is_place,.func (PySem.W.fnOf "is_place" "is_place" (defArgs s_is_place) (defBody s_is_place) (defScope s_is_place) .none kV_is_place dc_is_place pm_is_place an_is_place cd_is_place ct_is_place),sl_is_place⟩)
   (c_is_place:PySem.W.codeIn K cd_is_place "is_place"=true)
   (k_is_place:PySem.W.keepIn K (.ref f_is_place)=true)
   (a_check_ends:PySem.W.nsIn K mainGlobals "check_ends"=some (some (.ref f_check_ends)))
   (l_check_ends:K.lookup f_check_ends=some ⟨oc_check_ends,od_check_ends,.func (PySem.W.fnOf "check_ends" "check_ends" (defArgs s_check_ends) (defBody s_check_ends) (defScope s_check_ends) .none kV_check_ends dc_check_ends pm_check_ends an_check_ends cd_check_ends ct_check_ends),sl_check_ends⟩)
   (c_check_ends:PySem.W.codeIn K cd_check_ends "check_ends"=true)
   (k_check_ends:PySem.W.keepIn K (.ref f_check_ends)=true)
   (a_other_ends:PySem.W.nsIn K mainGlobals "other_ends"=some (some (.ref f_other_ends)))
   (l_other_ends:K.lookup f_other_ends=some ⟨oc_other_ends,od_other_ends,.func (PySem.W.fnOf "other_ends" "other_ends" (defArgs s_other_ends) (defBody s_other_ends) (defScope s_other_ends) .none kV_other_ends dc_other_ends pm_other_ends an_other_ends cd_other_ends ct_other_ends),sl_other_ends⟩)
   (c_other_ends:PySem.W.codeIn K cd_other_ends "other_ends"=true)
   (k_other_ends:PySem.W.keepIn K (.ref f_other_ends)=true)
   (a_check_joined:PySem.W.nsIn K mainGlobals "check_joined"=some (some (.ref f_check_joined)))
   (l_check_joined:K.lookup f_check_joined=some ⟨oc_check_joined,od_check_joined,.func (PySem.W.fnOf "check_joined" "check_joined" (defArgs s_check_joined) (defBody s_check_joined) (defScope s_check_joined) .none kV_check_joined dc_check_joined pm_check_joined an_check_joined cd_check_joined ct_check_joined),sl_check_joined⟩)
   (c_check_joined:PySem.W.codeIn K cd_check_joined "check_joined"=true)
   (k_check_joined:PySem.W.keepIn K (.ref f_check_joined)=true)
   (a_check_tolls:PySem.W.nsIn K mainGlobals "check_tolls"=some (some (.ref f_check_tolls)))
   (l_check_tolls:K.lookup f_check_tolls=some ⟨oc_check_tolls,od_check_tolls,.func (PySem.W.fnOf "check_tolls" "check_tolls" (defArgs s_check_tolls) (defBody s_check_tolls) (defScope s_check_tolls) .none kV_check_tolls dc_check_tolls pm_check_tolls an_check_tolls cd_check_tolls ct_check_tolls),sl_check_tolls⟩)
   (c_check_tolls:PySem.W.codeIn K cd_check_tolls "check_tolls"=true)
   (k_check_tolls:PySem.W.keepIn K (.ref f_check_tolls)=true)
   (a_Web___init__:PySem.W.findIn K (.ref C_Web) "__init__"=some (some (.ref f_Web___init__)))
   (i_Web___init__:PySem.W.isFn K (.ref f_Web___init__)=true)
   (l_Web___init__:K.lookup f_Web___init__=some ⟨oc_Web___init__,od_Web___init__,.func (PySem.W.fnOf "__init__" "Web.__init__" (defArgs s_Web___init__) (defBody s_Web___init__) (defScope s_Web___init__) .none kV_Web___init__ dc_Web___init__ pm_Web___init__ an_Web___init__ cd_Web___init__ ct_Web___init__),sl_Web___init__⟩)
   (c_Web___init__:PySem.W.codeIn K cd_Web___init__ "Web.__init__"=true)
   (k_Web___init__:PySem.W.keepIn K (.ref f_Web___init__)=true)
   (a_law_tolls:PySem.W.nsIn K mainGlobals "_law_tolls"=some (some (.ref f_law_tolls)))
   (l_law_tolls:K.lookup f_law_tolls=some ⟨oc_law_tolls,od_law_tolls,.func (PySem.W.fnOf "_law_tolls" "_law_tolls" (defArgs s_law_tolls) (defBody s_law_tolls) (defScope s_law_tolls) .none kV_law_tolls dc_law_tolls pm_law_tolls an_law_tolls cd_law_tolls ct_law_tolls),sl_law_tolls⟩)
   (c_law_tolls:PySem.W.codeIn K cd_law_tolls "_law_tolls"=true)
   (k_law_tolls:PySem.W.keepIn K (.ref f_law_tolls)=true)
   (a_law_drawn:PySem.W.nsIn K mainGlobals "_law_drawn"=some (some (.ref f_law_drawn)))
   (l_law_drawn:K.lookup f_law_drawn=some ⟨oc_law_drawn,od_law_drawn,.func (PySem.W.fnOf "_law_drawn" "_law_drawn" (defArgs s_law_drawn) (defBody s_law_drawn) (defScope s_law_drawn) .none kV_law_drawn dc_law_drawn pm_law_drawn an_law_drawn cd_law_drawn ct_law_drawn),sl_law_drawn⟩)
   (c_law_drawn:PySem.W.codeIn K cd_law_drawn "_law_drawn"=true)
   (k_law_drawn:PySem.W.keepIn K (.ref f_law_drawn)=true)
   (a_law_bound:PySem.W.nsIn K mainGlobals "_law_bound"=some (some (.ref f_law_bound)))
   (l_law_bound:K.lookup f_law_bound=some ⟨oc_law_bound,od_law_bound,.func (PySem.W.fnOf "_law_bound" "_law_bound" (defArgs s_law_bound) (defBody s_law_bound) (defScope s_law_bound) .none kV_law_bound dc_law_bound pm_law_bound an_law_bound cd_law_bound ct_law_bound),sl_law_bound⟩)
   (c_law_bound:PySem.W.codeIn K cd_law_bound "_law_bound"=true)
   (k_law_bound:PySem.W.keepIn K (.ref f_law_bound)=true)
   (a_law_down:PySem.W.nsIn K mainGlobals "_law_down"=some (some (.ref f_law_down)))
   (l_law_down:K.lookup f_law_down=some ⟨oc_law_down,od_law_down,.func (PySem.W.fnOf "_law_down" "_law_down" (defArgs s_law_down) (defBody s_law_down) (defScope s_law_down) .none kV_law_down dc_law_down pm_law_down an_law_down cd_law_down ct_law_down),sl_law_down⟩)
   (c_law_down:PySem.W.codeIn K cd_law_down "_law_down"=true)
   (k_law_down:PySem.W.keepIn K (.ref f_law_down)=true)
   (a_law_standings:PySem.W.nsIn K mainGlobals "_law_standings"=some (some (.ref f_law_standings)))
   (l_law_standings:K.lookup f_law_standings=some ⟨oc_law_standings,od_law_standings,.func (PySem.W.fnOf "_law_standings" "_law_standings" (defArgs s_law_standings) (defBody s_law_standings) (defScope s_law_standings) .none kV_law_standings dc_law_standings pm_law_standings an_law_standings cd_law_standings ct_law_standings),sl_law_standings⟩)
   (c_law_standings:PySem.W.codeIn K cd_law_standings "_law_standings"=true)
   (k_law_standings:PySem.W.keepIn K (.ref f_law_standings)=true)
   (a_law_edge:PySem.W.nsIn K mainGlobals "_law_edge"=some (some (.ref f_law_edge)))
   (l_law_edge:K.lookup f_law_edge=some ⟨oc_law_edge,od_law_edge,.func (PySem.W.fnOf "_law_edge" "_law_edge" (defArgs s_law_edge) (defBody s_law_edge) (defScope s_law_edge) .none kV_law_edge dc_law_edge pm_law_edge an_law_edge cd_law_edge ct_law_edge),sl_law_edge⟩)
   (c_law_edge:PySem.W.codeIn K cd_law_edge "_law_edge"=true)
   (k_law_edge:PySem.W.keepIn K (.ref f_law_edge)=true)
   (a_law_laying:PySem.W.nsIn K mainGlobals "_law_laying"=some (some (.ref f_law_laying)))
   (l_law_laying:K.lookup f_law_laying=some ⟨oc_law_laying,od_law_laying,.func (PySem.W.fnOf "_law_laying" "_law_laying" (defArgs s_law_laying) (defBody s_law_laying) (defScope s_law_laying) .none kV_law_laying dc_law_laying pm_law_laying an_law_laying cd_law_laying ct_law_laying),sl_law_laying⟩)
   (c_law_laying:PySem.W.codeIn K cd_law_laying "_law_laying"=true)
   (k_law_laying:PySem.W.keepIn K (.ref f_law_laying)=true)
   (a_law_covers:PySem.W.nsIn K mainGlobals "_law_covers"=some (some (.ref f_law_covers)))
   (l_law_covers:K.lookup f_law_covers=some ⟨oc_law_covers,od_law_covers,.func (PySem.W.fnOf "_law_covers" "_law_covers" (defArgs s_law_covers) (defBody s_law_covers) (defScope s_law_covers) .none kV_law_covers dc_law_covers pm_law_covers an_law_covers cd_law_covers ct_law_covers),sl_law_covers⟩)
   (c_law_covers:PySem.W.codeIn K cd_law_covers "_law_covers"=true)
   (k_law_covers:PySem.W.keepIn K (.ref f_law_covers)=true)
   (a_law_done:PySem.W.nsIn K mainGlobals "_law_done"=some (some (.ref f_law_done)))
   (l_law_done:K.lookup f_law_done=some ⟨oc_law_done,od_law_done,.func (PySem.W.fnOf "_law_done" "_law_done" (defArgs s_law_done) (defBody s_law_done) (defScope s_law_done) .none kV_law_done dc_law_done pm_law_done an_law_done cd_law_done ct_law_done),sl_law_done⟩)
   (c_law_done:PySem.W.codeIn K cd_law_done "_law_done"=true)
   (k_law_done:PySem.W.keepIn K (.ref f_law_done)=true)
   (a_check_place:PySem.W.nsIn K mainGlobals "check_place"=some (some (.ref f_check_place)))
   (l_check_place:K.lookup f_check_place=some ⟨oc_check_place,od_check_place,.func (PySem.W.fnOf "check_place" "check_place" (defArgs s_check_place) (defBody s_check_place) (defScope s_check_place) .none kV_check_place dc_check_place pm_check_place an_check_place cd_check_place ct_check_place),sl_check_place⟩)
   (c_check_place:PySem.W.codeIn K cd_check_place "check_place"=true)
   (k_check_place:PySem.W.keepIn K (.ref f_check_place)=true)
   (a_toll:PySem.W.nsIn K mainGlobals "toll"=some (some (.ref f_toll)))
   (l_toll:K.lookup f_toll=some ⟨oc_toll,od_toll,.func (PySem.W.fnOf "toll" "toll" (defArgs s_toll) (defBody s_toll) (defScope s_toll) .none kV_toll dc_toll pm_toll an_toll cd_toll ct_toll),sl_toll⟩)
   (c_toll:PySem.W.codeIn K cd_toll "toll"=true)
   (k_toll:PySem.W.keepIn K (.ref f_toll)=true)
   (a_handed_on:PySem.W.nsIn K mainGlobals "handed_on"=some (some (.ref f_handed_on)))
   (l_handed_on:K.lookup f_handed_on=some ⟨oc_handed_on,od_handed_on,.func (PySem.W.fnOf "handed_on" "handed_on" (defArgs s_handed_on) (defBody s_handed_on) (defScope s_handed_on) .none kV_handed_on dc_handed_on pm_handed_on an_handed_on cd_handed_on ct_handed_on),sl_handed_on⟩)
   (c_handed_on:PySem.W.codeIn K cd_handed_on "handed_on"=true)
   (k_handed_on:PySem.W.keepIn K (.ref f_handed_on)=true)
   (a_neighbours:PySem.W.nsIn K mainGlobals "neighbours"=some (some (.ref f_neighbours)))
   (l_neighbours:K.lookup f_neighbours=some ⟨oc_neighbours,od_neighbours,.func (PySem.W.fnOf "neighbours" "neighbours" (defArgs s_neighbours) (defBody s_neighbours) (defScope s_neighbours) .none kV_neighbours dc_neighbours pm_neighbours an_neighbours cd_neighbours ct_neighbours),sl_neighbours⟩)
   (c_neighbours:PySem.W.codeIn K cd_neighbours "neighbours"=true)
   (k_neighbours:PySem.W.keepIn K (.ref f_neighbours)=true)
   (a_kids:PySem.W.nsIn K mainGlobals "kids"=some (some (.ref f_kids)))
   (l_kids:K.lookup f_kids=some ⟨oc_kids,od_kids,.func (PySem.W.fnOf "kids" "kids" (defArgs s_kids) (defBody s_kids) (defScope s_kids) .none kV_kids dc_kids pm_kids an_kids cd_kids ct_kids),sl_kids⟩)
   (c_kids:PySem.W.codeIn K cd_kids "kids"=true)
   (k_kids:PySem.W.keepIn K (.ref f_kids)=true)
   (a_ahead:PySem.W.nsIn K mainGlobals "ahead"=some (some (.ref f_ahead)))
   (l_ahead:K.lookup f_ahead=some ⟨oc_ahead,od_ahead,.func (PySem.W.fnOf "ahead" "ahead" (defArgs s_ahead) (defBody s_ahead) (defScope s_ahead) .none kV_ahead dc_ahead pm_ahead an_ahead cd_ahead ct_ahead),sl_ahead⟩)
   (c_ahead:PySem.W.codeIn K cd_ahead "ahead"=true)
   (k_ahead:PySem.W.keepIn K (.ref f_ahead)=true)
   (a_down:PySem.W.nsIn K mainGlobals "down"=some (some (.ref f_down)))
   (l_down:K.lookup f_down=some ⟨oc_down,od_down,.func (PySem.W.fnOf "down" "down" (defArgs s_down) (defBody s_down) (defScope s_down) .none kV_down dc_down pm_down an_down cd_down ct_down),sl_down⟩)
   (c_down:PySem.W.codeIn K cd_down "down"=true)
   (k_down:PySem.W.keepIn K (.ref f_down)=true)
   (a_inward:PySem.W.nsIn K mainGlobals "inward"=some (some (.ref f_inward)))
   (l_inward:K.lookup f_inward=some ⟨oc_inward,od_inward,.func (PySem.W.fnOf "inward" "inward" (defArgs s_inward) (defBody s_inward) (defScope s_inward) .none kV_inward dc_inward pm_inward an_inward cd_inward ct_inward),sl_inward⟩)
   (c_inward:PySem.W.codeIn K cd_inward "inward"=true)
   (k_inward:PySem.W.keepIn K (.ref f_inward)=true)
   (a_is_filled:PySem.W.nsIn K mainGlobals "is_filled"=some (some (.ref f_is_filled)))
   (l_is_filled:K.lookup f_is_filled=some ⟨oc_is_filled,od_is_filled,.func (PySem.W.fnOf "is_filled" "is_filled" (defArgs s_is_filled) (defBody s_is_filled) (defScope s_is_filled) .none kV_is_filled dc_is_filled pm_is_filled an_is_filled cd_is_filled ct_is_filled),sl_is_filled⟩)
   (c_is_filled:PySem.W.codeIn K cd_is_filled "is_filled"=true)
   (k_is_filled:PySem.W.keepIn K (.ref f_is_filled)=true)
   (a_laying_of:PySem.W.nsIn K mainGlobals "laying_of"=some (some (.ref f_laying_of)))
   (l_laying_of:K.lookup f_laying_of=some ⟨oc_laying_of,od_laying_of,.func (PySem.W.fnOf "laying_of" "laying_of" (defArgs s_laying_of) (defBody s_laying_of) (defScope s_laying_of) .none kV_laying_of dc_laying_of pm_laying_of an_laying_of cd_laying_of ct_laying_of),sl_laying_of⟩)
   (c_laying_of:PySem.W.codeIn K cd_laying_of "laying_of"=true)
   (k_laying_of:PySem.W.keepIn K (.ref f_laying_of)=true)
   (a_wish_of:PySem.W.nsIn K mainGlobals "wish_of"=some (some (.ref f_wish_of)))
   (l_wish_of:K.lookup f_wish_of=some ⟨oc_wish_of,od_wish_of,.func (PySem.W.fnOf "wish_of" "wish_of" (defArgs s_wish_of) (defBody s_wish_of) (defScope s_wish_of) .none kV_wish_of dc_wish_of pm_wish_of an_wish_of cd_wish_of ct_wish_of),sl_wish_of⟩)
   (c_wish_of:PySem.W.codeIn K cd_wish_of "wish_of"=true)
   (k_wish_of:PySem.W.keepIn K (.ref f_wish_of)=true)
   (a_standings:PySem.W.nsIn K mainGlobals "standings"=some (some (.ref f_standings)))
   (l_standings:K.lookup f_standings=some ⟨oc_standings,od_standings,.func (PySem.W.fnOf "standings" "standings" (defArgs s_standings) (defBody s_standings) (defScope s_standings) .none kV_standings dc_standings pm_standings an_standings cd_standings ct_standings),sl_standings⟩)
   (c_standings:PySem.W.codeIn K cd_standings "standings"=true)
   (k_standings:PySem.W.keepIn K (.ref f_standings)=true)
   (a_standing:PySem.W.nsIn K mainGlobals "standing"=some (some (.ref f_standing)))
   (l_standing:K.lookup f_standing=some ⟨oc_standing,od_standing,.func (PySem.W.fnOf "standing" "standing" (defArgs s_standing) (defBody s_standing) (defScope s_standing) .none kV_standing dc_standing pm_standing an_standing cd_standing ct_standing),sl_standing⟩)
   (c_standing:PySem.W.codeIn K cd_standing "standing"=true)
   (k_standing:PySem.W.keepIn K (.ref f_standing)=true)
   (a_is_met:PySem.W.nsIn K mainGlobals "is_met"=some (some (.ref f_is_met)))
   (l_is_met:K.lookup f_is_met=some ⟨oc_is_met,od_is_met,.func (PySem.W.fnOf "is_met" "is_met" (defArgs s_is_met) (defBody s_is_met) (defScope s_is_met) .none kV_is_met dc_is_met pm_is_met an_is_met cd_is_met ct_is_met),sl_is_met⟩)
   (c_is_met:PySem.W.codeIn K cd_is_met "is_met"=true)
   (k_is_met:PySem.W.keepIn K (.ref f_is_met)=true)
   (a_lacks_of:PySem.W.nsIn K mainGlobals "lacks_of"=some (some (.ref f_lacks_of)))
   (l_lacks_of:K.lookup f_lacks_of=some ⟨oc_lacks_of,od_lacks_of,.func (PySem.W.fnOf "lacks_of" "lacks_of" (defArgs s_lacks_of) (defBody s_lacks_of) (defScope s_lacks_of) .none kV_lacks_of dc_lacks_of pm_lacks_of an_lacks_of cd_lacks_of ct_lacks_of),sl_lacks_of⟩)
   (c_lacks_of:PySem.W.codeIn K cd_lacks_of "lacks_of"=true)
   (k_lacks_of:PySem.W.keepIn K (.ref f_lacks_of)=true)
   (a_steps_in:PySem.W.nsIn K mainGlobals "steps_in"=some (some (.ref f_steps_in)))
   (l_steps_in:K.lookup f_steps_in=some ⟨oc_steps_in,od_steps_in,.func (PySem.W.fnOf "steps_in" "steps_in" (defArgs s_steps_in) (defBody s_steps_in) (defScope s_steps_in) .none kV_steps_in dc_steps_in pm_steps_in an_steps_in cd_steps_in ct_steps_in),sl_steps_in⟩)
   (c_steps_in:PySem.W.codeIn K cd_steps_in "steps_in"=true)
   (k_steps_in:PySem.W.keepIn K (.ref f_steps_in)=true)
   (a_steps_out:PySem.W.nsIn K mainGlobals "steps_out"=some (some (.ref f_steps_out)))
   (l_steps_out:K.lookup f_steps_out=some ⟨oc_steps_out,od_steps_out,.func (PySem.W.fnOf "steps_out" "steps_out" (defArgs s_steps_out) (defBody s_steps_out) (defScope s_steps_out) .none kV_steps_out dc_steps_out pm_steps_out an_steps_out cd_steps_out ct_steps_out),sl_steps_out⟩)
   (c_steps_out:PySem.W.codeIn K cd_steps_out "steps_out"=true)
   (k_steps_out:PySem.W.keepIn K (.ref f_steps_out)=true)
   (a_meeting:PySem.W.nsIn K mainGlobals "meeting"=some (some (.ref f_meeting)))
   (l_meeting:K.lookup f_meeting=some ⟨oc_meeting,od_meeting,.func (PySem.W.fnOf "meeting" "meeting" (defArgs s_meeting) (defBody s_meeting) (defScope s_meeting) .none kV_meeting dc_meeting pm_meeting an_meeting cd_meeting ct_meeting),sl_meeting⟩)
   (c_meeting:PySem.W.codeIn K cd_meeting "meeting"=true)
   (k_meeting:PySem.W.keepIn K (.ref f_meeting)=true)
   (a_law_is_led:PySem.W.nsIn K mainGlobals "_law_is_led"=some (some (.ref f_law_is_led)))
   (l_law_is_led:K.lookup f_law_is_led=some ⟨oc_law_is_led,od_law_is_led,.func (PySem.W.fnOf "_law_is_led" "_law_is_led" (defArgs s_law_is_led) (defBody s_law_is_led) (defScope s_law_is_led) .none kV_law_is_led dc_law_is_led pm_law_is_led an_law_is_led cd_law_is_led ct_law_is_led),sl_law_is_led⟩)
   (c_law_is_led:PySem.W.codeIn K cd_law_is_led "_law_is_led"=true)
   (k_law_is_led:PySem.W.keepIn K (.ref f_law_is_led)=true)
   (a_law_more:PySem.W.nsIn K mainGlobals "_law_more"=some (some (.ref f_law_more)))
   (l_law_more:K.lookup f_law_more=some ⟨oc_law_more,od_law_more,.func (PySem.W.fnOf "_law_more" "_law_more" (defArgs s_law_more) (defBody s_law_more) (defScope s_law_more) .none kV_law_more dc_law_more pm_law_more an_law_more cd_law_more ct_law_more),sl_law_more⟩)
   (c_law_more:PySem.W.codeIn K cd_law_more "_law_more"=true)
   (k_law_more:PySem.W.keepIn K (.ref f_law_more)=true)
   (a_law_right:PySem.W.nsIn K mainGlobals "_law_right"=some (some (.ref f_law_right)))
   (l_law_right:K.lookup f_law_right=some ⟨oc_law_right,od_law_right,.func (PySem.W.fnOf "_law_right" "_law_right" (defArgs s_law_right) (defBody s_law_right) (defScope s_law_right) .none kV_law_right dc_law_right pm_law_right an_law_right cd_law_right ct_law_right),sl_law_right⟩)
   (c_law_right:PySem.W.codeIn K cd_law_right "_law_right"=true)
   (k_law_right:PySem.W.keepIn K (.ref f_law_right)=true)
   (a_law_toll:PySem.W.nsIn K mainGlobals "_law_toll"=some (some (.ref f_law_toll)))
   (l_law_toll:K.lookup f_law_toll=some ⟨oc_law_toll,od_law_toll,.func (PySem.W.fnOf "_law_toll" "_law_toll" (defArgs s_law_toll) (defBody s_law_toll) (defScope s_law_toll) .none kV_law_toll dc_law_toll pm_law_toll an_law_toll cd_law_toll ct_law_toll),sl_law_toll⟩)
   (c_law_toll:PySem.W.codeIn K cd_law_toll "_law_toll"=true)
   (k_law_toll:PySem.W.keepIn K (.ref f_law_toll)=true)
   (a_law_roads:PySem.W.nsIn K mainGlobals "_law_roads"=some (some (.ref f_law_roads)))
   (l_law_roads:K.lookup f_law_roads=some ⟨oc_law_roads,od_law_roads,.func (PySem.W.fnOf "_law_roads" "_law_roads" (defArgs s_law_roads) (defBody s_law_roads) (defScope s_law_roads) .none kV_law_roads dc_law_roads pm_law_roads an_law_roads cd_law_roads ct_law_roads),sl_law_roads⟩)
   (c_law_roads:PySem.W.codeIn K cd_law_roads "_law_roads"=true)
   (k_law_roads:PySem.W.keepIn K (.ref f_law_roads)=true)
   (a_law_web:PySem.W.nsIn K mainGlobals "_law_web"=some (some (.ref f_law_web)))
   (l_law_web:K.lookup f_law_web=some ⟨oc_law_web,od_law_web,.func (PySem.W.fnOf "_law_web" "_law_web" (defArgs s_law_web) (defBody s_law_web) (defScope s_law_web) .none kV_law_web dc_law_web pm_law_web an_law_web cd_law_web ct_law_web),sl_law_web⟩)
   (c_law_web:PySem.W.codeIn K cd_law_web "_law_web"=true)
   (k_law_web:PySem.W.keepIn K (.ref f_law_web)=true)
   (a_law_wish:PySem.W.nsIn K mainGlobals "_law_wish"=some (some (.ref f_law_wish)))
   (l_law_wish:K.lookup f_law_wish=some ⟨oc_law_wish,od_law_wish,.func (PySem.W.fnOf "_law_wish" "_law_wish" (defArgs s_law_wish) (defBody s_law_wish) (defScope s_law_wish) .none kV_law_wish dc_law_wish pm_law_wish an_law_wish cd_law_wish ct_law_wish),sl_law_wish⟩)
   (c_law_wish:PySem.W.codeIn K cd_law_wish "_law_wish"=true)
   (k_law_wish:PySem.W.keepIn K (.ref f_law_wish)=true)
   (a_law:PySem.W.nsIn K mainGlobals "law"=some (some (.ref f_law)))
   (l_law:K.lookup f_law=some ⟨oc_law,od_law,.func (PySem.W.fnOf "law" "law" (defArgs s_law) (defBody s_law) (defScope s_law) .none kV_law dc_law pm_law an_law cd_law ct_law),sl_law⟩)
   (c_law:PySem.W.codeIn K cd_law "law"=true)
   (k_law:PySem.W.keepIn K (.ref f_law)=true)
   (pg_Web:PySem.W.plainGet K C_Web Str.empty=true)
   (hd_Web:PySem.W.hasDictIn K C_Web=true)
   (po_Web:PySem.W.plainOver K C_Web=true)
   (sa_Web:PySem.W.findIn K (.ref C_Web) "__setattr__"=some (some (.builtin "object.__setattr__")))
   (mk_Web:PySem.W.makesIn K C_Web=true)
   (kc_Web:PySem.W.keepIn K (.ref C_Web)=true)
   (nm_Web:PySem.W.findIn K (.ref C_Web) "many"=some none)
   (nr_Web:PySem.W.findIn K (.ref C_Web) "roads"=some none)
   (z_range:PySem.W.nsIn K mainGlobals "range"=some none)
   (z_len:PySem.W.nsIn K mainGlobals "len"=some none)
   (z_all:PySem.W.nsIn K mainGlobals "all"=some none)
   (z_int:PySem.W.nsIn K mainGlobals "int"=some none)
   (z_tuple:PySem.W.nsIn K mainGlobals "tuple"=some none)
   (z_list:PySem.W.nsIn K mainGlobals "list"=some none)
   (z_reversed:PySem.W.nsIn K mainGlobals "reversed"=some none)
   (z_sorted:PySem.W.nsIn K mainGlobals "sorted"=some none)
   (z_str:PySem.W.nsIn K mainGlobals "str"=some none)
   (v_MOST_PLACES:PySem.W.nsIn K mainGlobals "MOST_PLACES"=some (some (.int 24 t_MOST_PLACES)))
   (v_LEAST_TOLL:PySem.W.nsIn K mainGlobals "LEAST_TOLL"=some (some (.int 2 t_LEAST_TOLL)))
   (v_MOST_TOLL:PySem.W.nsIn K mainGlobals "MOST_TOLL"=some (some (.int 1000000 t_MOST_TOLL))) :
   ∃ fd:FuncData,(∀ (s:Shared) (v:Value),BindsTo s fd ⟨[v],[]⟩ [("script",v)])∧∀ base:Heap,K.In base→base.Ns mainGlobals mg→FnOk l.prog w K mg base (CXe l.prog w) 14 fa fd ["script"] (spLaw K):=by
 have e:=hfa.symm.trans (PySem.W.mg_of X G a_law)
 cases e
 let T:Txt K mg:=⟨C_BadWeb,PySem.W.mg_of X G ac_BadWeb,C_NoPlace,PySem.W.mg_of X G ac_NoPlace,C_NoRoad,PySem.W.mg_of X G ac_NoRoad,C_BadLaying,PySem.W.mg_of X G ac_BadLaying,C_BadWish,PySem.W.mg_of X G ac_BadWish,C_Web,PySem.W.mg_of X G ac_Web,xobj_mk _ _ _ _ _ _ _ _ _ _ _ _ _ _ _ _ xl_NoPlace xe_NoPlace xf_NoPlace xj_NoPlace xp_NoPlace,xobj_mk _ _ _ _ _ _ _ _ _ _ _ _ _ _ _ _ xl_NoRoad xe_NoRoad xf_NoRoad xj_NoRoad xp_NoRoad,xobj_mk _ _ _ _ _ _ _ _ _ _ _ _ _ _ _ _ xl_BadLaying xe_BadLaying xf_BadLaying xj_BadLaying xp_BadLaying,xobj_mk _ _ _ _ _ _ _ _ _ _ _ _ _ _ _ _ xl_BadWish xe_BadWish xf_BadWish xj_BadWish xp_BadWish,PySem.W.mg_none_of X G z_range,PySem.W.mg_none_of X G z_len,PySem.W.mg_none_of X G z_all,PySem.W.mg_none_of X G z_int,PySem.W.mg_none_of X G z_tuple,PySem.W.mg_none_of X G z_list,PySem.W.mg_none_of X G z_reversed,PySem.W.mg_none_of X G z_sorted,PySem.W.mg_none_of X G z_str,⟨_,PySem.W.mg_of X G v_MOST_PLACES⟩,⟨_,PySem.W.mg_of X G v_LEAST_TOLL⟩,⟨_,PySem.W.mg_of X G v_MOST_TOLL⟩,⟨pg_Web,hd_Web,po_Web,sa_Web⟩,nm_Web,nr_Web⟩
 have F_check_counts:=fun_mk (st:=s_check_counts) l_check_counts c_check_counts k_check_counts
 have b_check_counts:=F_check_counts.binds (ps:=["many","roads"]) fun _ _ _ _ _ _ us hl=>by obtain ⟨u0,u1,rfl⟩:=us2 hl; rfl
 have D_check_counts:Df K mg "check_counts" s_check_counts ["many","roads"] f_check_counts _:=⟨F_check_counts,PySem.W.mg_of X G a_check_counts,b_check_counts⟩
 have F_is_place:=fun_mk (st:=s_is_place) l_is_place c_is_place k_is_place
 have b_is_place:=F_is_place.binds (ps:=["many","number"]) fun _ _ _ _ _ _ us hl=>by obtain ⟨u0,u1,rfl⟩:=us2 hl; rfl
 have D_is_place:Df K mg "is_place" s_is_place ["many","number"] f_is_place _:=⟨F_is_place,PySem.W.mg_of X G a_is_place,b_is_place⟩
 have F_check_ends:=fun_mk (st:=s_check_ends) l_check_ends c_check_ends k_check_ends
 have b_check_ends:=F_check_ends.binds (ps:=["many","road"]) fun _ _ _ _ _ _ us hl=>by obtain ⟨u0,u1,rfl⟩:=us2 hl; rfl
 have D_check_ends:Df K mg "check_ends" s_check_ends ["many","road"] f_check_ends _:=⟨F_check_ends,PySem.W.mg_of X G a_check_ends,b_check_ends⟩
 have F_other_ends:=fun_mk (st:=s_other_ends) l_other_ends c_other_ends k_other_ends
 have b_other_ends:=F_other_ends.binds (ps:=["roads","place"]) fun _ _ _ _ _ _ us hl=>by obtain ⟨u0,u1,rfl⟩:=us2 hl; rfl
 have D_other_ends:Df K mg "other_ends" s_other_ends ["roads","place"] f_other_ends _:=⟨F_other_ends,PySem.W.mg_of X G a_other_ends,b_other_ends⟩
 have F_check_joined:=fun_mk (st:=s_check_joined) l_check_joined c_check_joined k_check_joined
 have b_check_joined:=F_check_joined.binds (ps:=["many","roads"]) fun _ _ _ _ _ _ us hl=>by obtain ⟨u0,u1,rfl⟩:=us2 hl; rfl
 have D_check_joined:Df K mg "check_joined" s_check_joined ["many","roads"] f_check_joined _:=⟨F_check_joined,PySem.W.mg_of X G a_check_joined,b_check_joined⟩
 have F_check_tolls:=fun_mk (st:=s_check_tolls) l_check_tolls c_check_tolls k_check_tolls
 have b_check_tolls:=F_check_tolls.binds (ps:=["road"]) fun _ _ _ _ _ _ us hl=>by obtain ⟨u0,rfl⟩:=us1 hl; rfl
 have D_check_tolls:Df K mg "check_tolls" s_check_tolls ["road"] f_check_tolls _:=⟨F_check_tolls,PySem.W.mg_of X G a_check_tolls,b_check_tolls⟩
 have F_Web___init__:=fun_mk (st:=s_Web___init__) l_Web___init__ c_Web___init__ k_Web___init__
 have b_Web:=F_Web___init__.binds (ps:=["self","many","roads"]) fun _ _ _ _ _ _ us hl=>by obtain ⟨u0,u1,u2,rfl⟩:=us3 hl; rfl
 have F_law_tolls:=fun_mk (st:=s_law_tolls) l_law_tolls c_law_tolls k_law_tolls
 have b_law_tolls:=F_law_tolls.binds (ps:=["roads"]) fun _ _ _ _ _ _ us hl=>by obtain ⟨u0,rfl⟩:=us1 hl; rfl
 have D_law_tolls:Df K mg "_law_tolls" s_law_tolls ["roads"] f_law_tolls _:=⟨F_law_tolls,PySem.W.mg_of X G a_law_tolls,b_law_tolls⟩
 have F_law_drawn:=fun_mk (st:=s_law_drawn) l_law_drawn c_law_drawn k_law_drawn
 have b_law_drawn:=F_law_drawn.binds (ps:=["script","k"]) fun _ _ _ _ _ _ us hl=>by obtain ⟨u0,u1,rfl⟩:=us2 hl; rfl
 have D_law_drawn:Df K mg "_law_drawn" s_law_drawn ["script","k"] f_law_drawn _:=⟨F_law_drawn,PySem.W.mg_of X G a_law_drawn,b_law_drawn⟩
 have F_law_bound:=fun_mk (st:=s_law_bound) l_law_bound c_law_bound k_law_bound
 have b_law_bound:=F_law_bound.binds (ps:=["script"]) fun _ _ _ _ _ _ us hl=>by obtain ⟨u0,rfl⟩:=us1 hl; rfl
 have D_law_bound:Df K mg "_law_bound" s_law_bound ["script"] f_law_bound _:=⟨F_law_bound,PySem.W.mg_of X G a_law_bound,b_law_bound⟩
 have F_law_down:=fun_mk (st:=s_law_down) l_law_down c_law_down k_law_down
 have b_law_down:=F_law_down.binds (ps:=["tolls","many","r"]) fun _ _ _ _ _ _ us hl=>by obtain ⟨u0,u1,u2,rfl⟩:=us3 hl; rfl
 have D_law_down:Df K mg "_law_down" s_law_down ["tolls","many","r"] f_law_down _:=⟨F_law_down,PySem.W.mg_of X G a_law_down,b_law_down⟩
 have F_law_standings:=fun_mk (st:=s_law_standings) l_law_standings c_law_standings k_law_standings
 have b_law_standings:=F_law_standings.binds (ps:=["tolls","many","laying","wish","r"]) fun _ _ _ _ _ _ us hl=>by obtain ⟨u0,u1,u2,u3,u4,rfl⟩:=us5 hl; rfl
 have D_law_standings:Df K mg "_law_standings" s_law_standings ["tolls","many","laying","wish","r"] f_law_standings _:=⟨F_law_standings,PySem.W.mg_of X G a_law_standings,b_law_standings⟩
 have F_law_edge:=fun_mk (st:=s_law_edge) l_law_edge c_law_edge k_law_edge
 have b_law_edge:=F_law_edge.binds (ps:=["script","tolls","many","laying","wish"]) fun _ _ _ _ _ _ us hl=>by obtain ⟨u0,u1,u2,u3,u4,rfl⟩:=us5 hl; rfl
 have D_law_edge:Df K mg "_law_edge" s_law_edge ["script","tolls","many","laying","wish"] f_law_edge _:=⟨F_law_edge,PySem.W.mg_of X G a_law_edge,b_law_edge⟩
 have F_law_laying:=fun_mk (st:=s_law_laying) l_law_laying c_law_laying k_law_laying
 have b_law_laying:=F_law_laying.binds (ps:=["script","many","bound"]) fun _ _ _ _ _ _ us hl=>by obtain ⟨u0,u1,u2,rfl⟩:=us3 hl; rfl
 have D_law_laying:Df K mg "_law_laying" s_law_laying ["script","many","bound"] f_law_laying _:=⟨F_law_laying,PySem.W.mg_of X G a_law_laying,b_law_laying⟩
 have F_law_covers:=fun_mk (st:=s_law_covers) l_law_covers c_law_covers k_law_covers
 have b_law_covers:=F_law_covers.binds (ps:=["held","wish"]) fun _ _ _ _ _ _ us hl=>by obtain ⟨u0,u1,rfl⟩:=us2 hl; rfl
 have D_law_covers:Df K mg "_law_covers" s_law_covers ["held","wish"] f_law_covers _:=⟨F_law_covers,PySem.W.mg_of X G a_law_covers,b_law_covers⟩
 have F_law_done:=fun_mk (st:=s_law_done) l_law_done c_law_done k_law_done
 have b_law_done:=F_law_done.binds (ps:=["tolls","laying","steps"]) fun _ _ _ _ _ _ us hl=>by obtain ⟨u0,u1,u2,rfl⟩:=us3 hl; rfl
 have D_law_done:Df K mg "_law_done" s_law_done ["tolls","laying","steps"] f_law_done _:=⟨F_law_done,PySem.W.mg_of X G a_law_done,b_law_done⟩
 have F_check_place:=fun_mk (st:=s_check_place) l_check_place c_check_place k_check_place
 have b_check_place:=F_check_place.binds (ps:=["web","number"]) fun _ _ _ _ _ _ us hl=>by obtain ⟨u0,u1,rfl⟩:=us2 hl; rfl
 have D_check_place:Df K mg "check_place" s_check_place ["web","number"] f_check_place _:=⟨F_check_place,PySem.W.mg_of X G a_check_place,b_check_place⟩
 have F_toll:=fun_mk (st:=s_toll) l_toll c_toll k_toll
 have b_toll:=F_toll.binds (ps:=["web","a","b"]) fun _ _ _ _ _ _ us hl=>by obtain ⟨u0,u1,u2,rfl⟩:=us3 hl; rfl
 have D_toll:Df K mg "toll" s_toll ["web","a","b"] f_toll _:=⟨F_toll,PySem.W.mg_of X G a_toll,b_toll⟩
 have F_handed_on:=fun_mk (st:=s_handed_on) l_handed_on c_handed_on k_handed_on
 have b_handed_on:=F_handed_on.binds (ps:=["web","over","place","front"]) fun _ _ _ _ _ _ us hl=>by obtain ⟨u0,u1,u2,u3,rfl⟩:=us4 hl; rfl
 have D_handed_on:Df K mg "handed_on" s_handed_on ["web","over","place","front"] f_handed_on _:=⟨F_handed_on,PySem.W.mg_of X G a_handed_on,b_handed_on⟩
 have F_neighbours:=fun_mk (st:=s_neighbours) l_neighbours c_neighbours k_neighbours
 have b_neighbours:=F_neighbours.binds (ps:=["web","a"]) fun _ _ _ _ _ _ us hl=>by obtain ⟨u0,u1,rfl⟩:=us2 hl; rfl
 have D_neighbours:Df K mg "neighbours" s_neighbours ["web","a"] f_neighbours _:=⟨F_neighbours,PySem.W.mg_of X G a_neighbours,b_neighbours⟩
 have F_kids:=fun_mk (st:=s_kids) l_kids c_kids k_kids
 have b_kids:=F_kids.binds (ps:=["web","place","front"]) fun _ _ _ _ _ _ us hl=>by obtain ⟨u0,u1,u2,rfl⟩:=us3 hl; rfl
 have D_kids:Df K mg "kids" s_kids ["web","place","front"] f_kids _:=⟨F_kids,PySem.W.mg_of X G a_kids,b_kids⟩
 have F_ahead:=fun_mk (st:=s_ahead) l_ahead c_ahead k_ahead
 have b_ahead:=F_ahead.binds (ps:=["web","r"]) fun _ _ _ _ _ _ us hl=>by obtain ⟨u0,u1,rfl⟩:=us2 hl; rfl
 have D_ahead:Df K mg "ahead" s_ahead ["web","r"] f_ahead _:=⟨F_ahead,PySem.W.mg_of X G a_ahead,b_ahead⟩
 have F_down:=fun_mk (st:=s_down) l_down c_down k_down
 have b_down:=F_down.binds (ps:=["web","r"]) fun _ _ _ _ _ _ us hl=>by obtain ⟨u0,u1,rfl⟩:=us2 hl; rfl
 have D_down:Df K mg "down" s_down ["web","r"] f_down _:=⟨F_down,PySem.W.mg_of X G a_down,b_down⟩
 have F_inward:=fun_mk (st:=s_inward) l_inward c_inward k_inward
 have b_inward:=F_inward.binds (ps:=["web","r"]) fun _ _ _ _ _ _ us hl=>by obtain ⟨u0,u1,rfl⟩:=us2 hl; rfl
 have D_inward:Df K mg "inward" s_inward ["web","r"] f_inward _:=⟨F_inward,PySem.W.mg_of X G a_inward,b_inward⟩
 have F_is_filled:=fun_mk (st:=s_is_filled) l_is_filled c_is_filled k_is_filled
 have b_is_filled:=F_is_filled.binds (ps:=["web","numbers"]) fun _ _ _ _ _ _ us hl=>by obtain ⟨u0,u1,rfl⟩:=us2 hl; rfl
 have D_is_filled:Df K mg "is_filled" s_is_filled ["web","numbers"] f_is_filled _:=⟨F_is_filled,PySem.W.mg_of X G a_is_filled,b_is_filled⟩
 have F_laying_of:=fun_mk (st:=s_laying_of) l_laying_of c_laying_of k_laying_of
 have b_laying_of:=F_laying_of.binds (ps:=["web","numbers"]) fun _ _ _ _ _ _ us hl=>by obtain ⟨u0,u1,rfl⟩:=us2 hl; rfl
 have D_laying_of:Df K mg "laying_of" s_laying_of ["web","numbers"] f_laying_of _:=⟨F_laying_of,PySem.W.mg_of X G a_laying_of,b_laying_of⟩
 have F_wish_of:=fun_mk (st:=s_wish_of) l_wish_of c_wish_of k_wish_of
 have b_wish_of:=F_wish_of.binds (ps:=["web","numbers"]) fun _ _ _ _ _ _ us hl=>by obtain ⟨u0,u1,rfl⟩:=us2 hl; rfl
 have D_wish_of:Df K mg "wish_of" s_wish_of ["web","numbers"] f_wish_of _:=⟨F_wish_of,PySem.W.mg_of X G a_wish_of,b_wish_of⟩
 have F_standings:=fun_mk (st:=s_standings) l_standings c_standings k_standings
 have b_standings:=F_standings.binds (ps:=["web","laying","wish","r"]) fun _ _ _ _ _ _ us hl=>by obtain ⟨u0,u1,u2,u3,rfl⟩:=us4 hl; rfl
 have D_standings:Df K mg "standings" s_standings ["web","laying","wish","r"] f_standings _:=⟨F_standings,PySem.W.mg_of X G a_standings,b_standings⟩
 have F_standing:=fun_mk (st:=s_standing) l_standing c_standing k_standing
 have b_standing:=F_standing.binds (ps:=["web","laying","wish","r"]) fun _ _ _ _ _ _ us hl=>by obtain ⟨u0,u1,u2,u3,rfl⟩:=us4 hl; rfl
 have D_standing:Df K mg "standing" s_standing ["web","laying","wish","r"] f_standing _:=⟨F_standing,PySem.W.mg_of X G a_standing,b_standing⟩
 have F_is_met:=fun_mk (st:=s_is_met) l_is_met c_is_met k_is_met
 have b_is_met:=F_is_met.binds (ps:=["web","laying","wish"]) fun _ _ _ _ _ _ us hl=>by obtain ⟨u0,u1,u2,rfl⟩:=us3 hl; rfl
 have D_is_met:Df K mg "is_met" s_is_met ["web","laying","wish"] f_is_met _:=⟨F_is_met,PySem.W.mg_of X G a_is_met,b_is_met⟩
 have F_lacks_of:=fun_mk (st:=s_lacks_of) l_lacks_of c_lacks_of k_lacks_of
 have b_lacks_of:=F_lacks_of.binds (ps:=["web","laying","wish"]) fun _ _ _ _ _ _ us hl=>by obtain ⟨u0,u1,u2,rfl⟩:=us3 hl; rfl
 have D_lacks_of:Df K mg "lacks_of" s_lacks_of ["web","laying","wish"] f_lacks_of _:=⟨F_lacks_of,PySem.W.mg_of X G a_lacks_of,b_lacks_of⟩
 have F_steps_in:=fun_mk (st:=s_steps_in) l_steps_in c_steps_in k_steps_in
 have b_steps_in:=F_steps_in.binds (ps:=["web","laying","wish","r"]) fun _ _ _ _ _ _ us hl=>by obtain ⟨u0,u1,u2,u3,rfl⟩:=us4 hl; rfl
 have D_steps_in:Df K mg "steps_in" s_steps_in ["web","laying","wish","r"] f_steps_in _:=⟨F_steps_in,PySem.W.mg_of X G a_steps_in,b_steps_in⟩
 have F_steps_out:=fun_mk (st:=s_steps_out) l_steps_out c_steps_out k_steps_out
 have b_steps_out:=F_steps_out.binds (ps:=["web","laying","wish","r"]) fun _ _ _ _ _ _ us hl=>by obtain ⟨u0,u1,u2,u3,rfl⟩:=us4 hl; rfl
 have D_steps_out:Df K mg "steps_out" s_steps_out ["web","laying","wish","r"] f_steps_out _:=⟨F_steps_out,PySem.W.mg_of X G a_steps_out,b_steps_out⟩
 have F_meeting:=fun_mk (st:=s_meeting) l_meeting c_meeting k_meeting
 have b_meeting:=F_meeting.binds (ps:=["web","laying","wish"]) fun _ _ _ _ _ _ us hl=>by obtain ⟨u0,u1,u2,rfl⟩:=us3 hl; rfl
 have D_meeting:Df K mg "meeting" s_meeting ["web","laying","wish"] f_meeting _:=⟨F_meeting,PySem.W.mg_of X G a_meeting,b_meeting⟩
 have F_law_is_led:=fun_mk (st:=s_law_is_led) l_law_is_led c_law_is_led k_law_is_led
 have b_law_is_led:=F_law_is_led.binds (ps:=["web","tolls","laying","wish"]) fun _ _ _ _ _ _ us hl=>by obtain ⟨u0,u1,u2,u3,rfl⟩:=us4 hl; rfl
 have D_law_is_led:Df K mg "_law_is_led" s_law_is_led ["web","tolls","laying","wish"] f_law_is_led _:=⟨F_law_is_led,PySem.W.mg_of X G a_law_is_led,b_law_is_led⟩
 have F_law_more:=fun_mk (st:=s_law_more) l_law_more c_law_more k_law_more
 have b_law_more:=F_law_more.binds (ps:=["numbers","place","many"]) fun _ _ _ _ _ _ us hl=>by obtain ⟨u0,u1,u2,rfl⟩:=us3 hl; rfl
 have D_law_more:Df K mg "_law_more" s_law_more ["numbers","place","many"] f_law_more _:=⟨F_law_more,PySem.W.mg_of X G a_law_more,b_law_more⟩
 have F_law_right:=fun_mk (st:=s_law_right) l_law_right c_law_right k_law_right
 have b_law_right:=F_law_right.binds (ps:=["web","tolls","laying","wish","r"]) fun _ _ _ _ _ _ us hl=>by obtain ⟨u0,u1,u2,u3,u4,rfl⟩:=us5 hl; rfl
 have D_law_right:Df K mg "_law_right" s_law_right ["web","tolls","laying","wish","r"] f_law_right _:=⟨F_law_right,PySem.W.mg_of X G a_law_right,b_law_right⟩
 have F_law_toll:=fun_mk (st:=s_law_toll) l_law_toll c_law_toll k_law_toll
 have b_law_toll:=F_law_toll.binds (ps:=["part"]) fun _ _ _ _ _ _ us hl=>by obtain ⟨u0,rfl⟩:=us1 hl; rfl
 have D_law_toll:Df K mg "_law_toll" s_law_toll ["part"] f_law_toll _:=⟨F_law_toll,PySem.W.mg_of X G a_law_toll,b_law_toll⟩
 have F_law_roads:=fun_mk (st:=s_law_roads) l_law_roads c_law_roads k_law_roads
 have b_law_roads:=F_law_roads.binds (ps:=["script","many","shape"]) fun _ _ _ _ _ _ us hl=>by obtain ⟨u0,u1,u2,rfl⟩:=us3 hl; rfl
 have D_law_roads:Df K mg "_law_roads" s_law_roads ["script","many","shape"] f_law_roads _:=⟨F_law_roads,PySem.W.mg_of X G a_law_roads,b_law_roads⟩
 have F_law_web:=fun_mk (st:=s_law_web) l_law_web c_law_web k_law_web
 have b_law_web:=F_law_web.binds (ps:=["script","reach"]) fun _ _ _ _ _ _ us hl=>by obtain ⟨u0,u1,rfl⟩:=us2 hl; rfl
 have D_law_web:Df K mg "_law_web" s_law_web ["script","reach"] f_law_web _:=⟨F_law_web,PySem.W.mg_of X G a_law_web,b_law_web⟩
 have F_law_wish:=fun_mk (st:=s_law_wish) l_law_wish c_law_wish k_law_wish
 have b_law_wish:=F_law_wish.binds (ps:=["script","many","bound"]) fun _ _ _ _ _ _ us hl=>by obtain ⟨u0,u1,u2,rfl⟩:=us3 hl; rfl
 have D_law_wish:Df K mg "_law_wish" s_law_wish ["script","many","bound"] f_law_wish _:=⟨F_law_wish,PySem.W.mg_of X G a_law_wish,b_law_wish⟩
 have F_law:=fun_mk (st:=s_law) l_law c_law k_law
 have b_law:=F_law.binds (ps:=["script"]) fun _ _ _ _ _ _ us hl=>by obtain ⟨u0,rfl⟩:=us1 hl; rfl
 have D_law:Df K mg "law" s_law ["script"] fa _:=⟨F_law,PySem.W.mg_of X G a_law,b_law⟩
 refine ⟨PySem.W.fnOf "law" "law" (defArgs s_law) (defBody s_law) (defScope s_law) .none kV_law dc_law pm_law an_law cd_law ct_law,fun s v=>.of_eq rfl,fun base _ _=>?_⟩
 have M_Web:Mk K T.Web f_Web___init__:=⟨mk_Web,a_Web___init__,i_Web___init__,kc_Web⟩
 have G_check_counts:=ok_check_counts (P:=l.prog) (w:=w) (base:=base) T quietE D_check_counts
 have G_is_place:=ok_is_place (P:=l.prog) (w:=w) (base:=base) T quietE D_is_place
 have G_check_ends:=ok_check_ends (P:=l.prog) (w:=w) (base:=base) T quietE D_check_ends D_is_place G_is_place
 have G_other_ends:=ok_other_ends (P:=l.prog) (w:=w) (base:=base) T quietE D_other_ends
 have G_check_joined:=ok_check_joined (P:=l.prog) (w:=w) (base:=base) T quietE D_check_joined D_other_ends G_other_ends
 have G_check_tolls:=ok_check_tolls (P:=l.prog) (w:=w) (base:=base) T quietE D_check_tolls
 have G_Web_init:=ok_Web___init__ (P:=l.prog) (w:=w) (base:=base) T quietE F_Web___init__ D_check_counts G_check_counts D_check_ends G_check_ends D_check_joined G_check_joined D_check_tolls G_check_tolls
 have G_law_tolls:=ok_law_tolls (P:=l.prog) (w:=w) (base:=base) T quietE D_law_tolls
 have G_law_drawn:=ok_law_drawn (P:=l.prog) (w:=w) (base:=base) T quietE D_law_drawn
 have G_law_bound:=ok_law_bound (P:=l.prog) (w:=w) (base:=base) T quietE D_law_bound D_law_drawn G_law_drawn
 have G_law_down:=ok_law_down (P:=l.prog) (w:=w) (base:=base) T quietE D_law_down
 have G_law_standings:=ok_law_standings (P:=l.prog) (w:=w) (base:=base) T quietE D_law_standings D_law_down G_law_down
 have G_law_edge:=ok_law_edge (P:=l.prog) (w:=w) (base:=base) T quietE D_law_edge D_law_drawn G_law_drawn D_law_standings G_law_standings
 have G_law_laying:=ok_law_laying (P:=l.prog) (w:=w) (base:=base) T quietE D_law_laying D_law_drawn G_law_drawn
 have G_law_covers:=ok_law_covers (P:=l.prog) (w:=w) (base:=base) T quietE D_law_covers
 have G_law_done:=ok_law_done (P:=l.prog) (w:=w) (base:=base) T quietE D_law_done
 have G_check_place:=ok_check_place (P:=l.prog) (w:=w) (base:=base) T quietE D_check_place D_is_place G_is_place
 have G_toll:=ok_toll (P:=l.prog) (w:=w) (base:=base) T quietE D_toll D_check_place G_check_place
 have G_handed_on:=ok_handed_on (P:=l.prog) (w:=w) (base:=base) T quietE D_handed_on D_toll G_toll
 have G_neighbours:=ok_neighbours (P:=l.prog) (w:=w) (base:=base) T quietE D_neighbours D_check_place G_check_place D_other_ends G_other_ends
 have G_kids:=ok_kids (P:=l.prog) (w:=w) (base:=base) T quietE D_kids D_neighbours G_neighbours
 have G_ahead:=ok_ahead (P:=l.prog) (w:=w) (base:=base) T quietE D_ahead D_check_place G_check_place D_kids G_kids
 have G_down:=ok_down (P:=l.prog) (w:=w) (base:=base) T quietE D_down D_ahead G_ahead D_kids G_kids
 have G_inward:=ok_inward (P:=l.prog) (w:=w) (base:=base) T quietE D_inward D_ahead G_ahead D_down G_down
 have G_is_filled:=ok_is_filled (P:=l.prog) (w:=w) (base:=base) T quietE D_is_filled
 have G_laying_of:=ok_laying_of (P:=l.prog) (w:=w) (base:=base) T quietE D_laying_of D_is_filled G_is_filled
 have G_wish_of:=ok_wish_of (P:=l.prog) (w:=w) (base:=base) T quietE D_wish_of D_is_filled G_is_filled
 have G_standings:=ok_standings (P:=l.prog) (w:=w) (base:=base) T quietE D_standings D_handed_on G_handed_on D_inward G_inward D_laying_of G_laying_of D_wish_of G_wish_of
 have G_standing:=ok_standing (P:=l.prog) (w:=w) (base:=base) T quietE D_standing D_standings G_standings
 have G_is_met:=ok_is_met (P:=l.prog) (w:=w) (base:=base) T quietE D_is_met D_standing G_standing
 have G_lacks_of:=ok_lacks_of (P:=l.prog) (w:=w) (base:=base) T quietE D_lacks_of D_standing G_standing
 have G_steps_in:=ok_steps_in (P:=l.prog) (w:=w) (base:=base) T quietE D_steps_in D_handed_on G_handed_on D_inward G_inward D_standings G_standings
 have G_steps_out:=ok_steps_out (P:=l.prog) (w:=w) (base:=base) T quietE D_steps_out D_inward G_inward D_standings G_standings
 have G_meeting:=ok_meeting (P:=l.prog) (w:=w) (base:=base) T quietE D_meeting D_is_met G_is_met D_lacks_of G_lacks_of D_steps_in G_steps_in D_steps_out G_steps_out
 have G_law_is_led:=ok_law_is_led (P:=l.prog) (w:=w) (base:=base) T quietE D_law_is_led D_law_covers G_law_covers D_law_done G_law_done D_meeting G_meeting
 have G_law_more:=ok_law_more (P:=l.prog) (w:=w) (base:=base) T quietE D_law_more
 have G_law_right:=ok_law_right (P:=l.prog) (w:=w) (base:=base) T quietE D_law_right D_law_is_led G_law_is_led D_law_more G_law_more D_is_met G_is_met D_standing G_standing
 have G_law_toll:=ok_law_toll (P:=l.prog) (w:=w) (base:=base) T quietE D_law_toll
 have G_law_roads:=ok_law_roads (P:=l.prog) (w:=w) (base:=base) T quietE D_law_roads D_law_drawn G_law_drawn D_law_toll G_law_toll
 have G_law_web:=ok_law_web (P:=l.prog) (w:=w) (base:=base) T quietE D_law_web D_law_drawn G_law_drawn D_law_roads G_law_roads
 have G_law_wish:=ok_law_wish (P:=l.prog) (w:=w) (base:=base) T quietE D_law_wish D_law_drawn G_law_drawn
 have G_law:=ok_law (P:=l.prog) (w:=w) (base:=base) T quietE D_law F_Web___init__ b_Web M_Web G_Web_init D_law_bound G_law_bound D_law_edge G_law_edge D_law_laying G_law_laying D_law_right G_law_right D_law_tolls G_law_tolls D_law_web G_law_web D_law_wish G_law_wish D_is_met G_is_met D_standing G_standing
 exact G_law
theorem walk {l:PySem.W.OpenLaw} {q:Program} {loose:List Str} {XP:(Str→Option Value)→Heap→Prop} {YP:World→Heap→Prop} {d:DefRec} {K:Params→PySem.W.Frag} (hn:l.most=some 63) (hdf:d.params.defaults=[])
   (hY:∀ (w:World) (h:Heap),YP w h→(K w.params).In h)
   (F:∀ (w:World) (mg:Str→Option Value) (fa:Addr) (h:Heap),(K w.params).In h→h.Ns mainGlobals mg→mg d.name=some (.ref fa) →
     ∃ fd:FuncData,(∀ (s:Shared) (u:Value),BindsTo s fd ⟨[u],[]⟩ [("script",u)])∧∀ base:Heap,(K w.params).In base→base.Ns mainGlobals mg→FnOk l.prog w (K w.params) mg base (CXe l.prog w) 14 fa fd ["script"] (spLaw (K w.params))) :
   PySem.W.WalkO q loose XP YP l.row.toRowW d [] (fun f vs=>PySem.call f vs) :=
 L2.walk_of (n:=63) (k:=14) (x:="script") (CX:=fun w=>(CXe l.prog w)) (sp:=fun w=>spLaw (K w.params)) hn (by decide) hdf ⟨rfl,by decide,by decide⟩ hY F (fun _ _ a ns hl _ hS=>⟨a,ns,rfl,hS,hl,fun _=>rfl⟩) fun _ _ _ _ _ z=>quietE _ _ _ _ _ z
end Pk
open PySem PySem.W PyProof.Rows
set_option maxRecDepth 100000 in
set_option maxHeartbeats 0 in
theorem PySem.Challenge.cw_pebbletoll_k26_whole_just_so_many_holds : PySem.Challenge.rw_pebbletoll_k26_whole_just_so_many.Holds := by
 w_on; o_law
 refine PySem.W.holds_open (q:=Hd.qq) (loose:=[]) (Xt:=(fun s=>PySem.W.xlAt Hd.qq [] s && PySem.W.recOk (PySem.W.RowW.records (PySem.W.OpenRow.toRowW (PySem.Challenge.rw_pebbletoll_k26_whole_just_so_many).row)) s)) (XP:=PySem.W.XL Hd.qq []) (Yf:=PySem.W.Hook.obs (PySem.W.kHook Hd.KK Hd.asK Hd.asK_eq)) (Ya:=PySem.W.Hook.val (PySem.W.kHook Hd.KK Hd.asK Hd.asK_eq)) (YP:=PySem.W.Hook.says (PySem.W.kHook Hd.KK Hd.asK Hd.asK_eq)) (N:=5826) Hd.left (PySem.W.Hook.of (PySem.W.kHook Hd.KK Hd.asK Hd.asK_eq)) (PySem.W.Hook.keeps (PySem.W.kHook Hd.KK Hd.asK Hd.asK_eq)) (fun s e=>PySem.W.xl_of s (Bool.and_eq_true_iff.mp e).1) PySem.W.XL.keeps (by rfl) (by rfl) (by rfl) (fun s e=>PySem.W.recFacts_of (Bool.and_eq_true_iff.mp e).2) (by rfl) (by assumption) (by decide +kernel) ⟨rfl,rfl,rfl,rfl,rfl,by decide +kernel⟩ ?hw ?hc
 (case hw=>w_witness2)
 k_fill
 refine Pk.walk (l:=PySem.Challenge.rw_pebbletoll_k26_whole_just_so_many) rfl rfl (fun w h Y=>PySem.W.kIn_of Y) ?F
 case F =>
   intro w mg fa h KX G hmg
   refine' Pk.all_mk KX G hmg ?ac_BadWeb ?ac_NoPlace ?ac_NoRoad ?ac_BadLaying ?ac_BadWish ?ac_Web ?xl_NoPlace ?xe_NoPlace ?xf_NoPlace ?xj_NoPlace ?xp_NoPlace ?xl_NoRoad ?xe_NoRoad ?xf_NoRoad ?xj_NoRoad ?xp_NoRoad ?xl_BadLaying ?xe_BadLaying ?xf_BadLaying ?xj_BadLaying ?xp_BadLaying ?xl_BadWish ?xe_BadWish ?xf_BadWish ?xj_BadWish ?xp_BadWish ?a_check_counts ?l_check_counts ?c_check_counts ?k_check_counts ?a_is_place ?l_is_place ?c_is_place ?k_is_place ?a_check_ends ?l_check_ends ?c_check_ends ?k_check_ends ?a_other_ends ?l_other_ends ?c_other_ends ?k_other_ends ?a_check_joined ?l_check_joined ?c_check_joined ?k_check_joined ?a_check_tolls ?l_check_tolls ?c_check_tolls ?k_check_tolls ?a_Web___init__ ?i_Web___init__ ?l_Web___init__ ?c_Web___init__ ?k_Web___init__ ?a_law_tolls ?l_law_tolls ?c_law_tolls ?k_law_tolls ?a_law_drawn ?l_law_drawn ?c_law_drawn ?k_law_drawn ?a_law_bound ?l_law_bound ?c_law_bound ?k_law_bound ?a_law_down ?l_law_down ?c_law_down ?k_law_down ?a_law_standings ?l_law_standings ?c_law_standings ?k_law_standings ?a_law_edge ?l_law_edge ?c_law_edge ?k_law_edge ?a_law_laying ?l_law_laying ?c_law_laying ?k_law_laying ?a_law_covers ?l_law_covers ?c_law_covers ?k_law_covers ?a_law_done ?l_law_done ?c_law_done ?k_law_done ?a_check_place ?l_check_place ?c_check_place ?k_check_place ?a_toll ?l_toll ?c_toll ?k_toll ?a_handed_on ?l_handed_on ?c_handed_on ?k_handed_on ?a_neighbours ?l_neighbours ?c_neighbours ?k_neighbours ?a_kids ?l_kids ?c_kids ?k_kids ?a_ahead ?l_ahead ?c_ahead ?k_ahead ?a_down ?l_down ?c_down ?k_down ?a_inward ?l_inward ?c_inward ?k_inward ?a_is_filled ?l_is_filled ?c_is_filled ?k_is_filled ?a_laying_of ?l_laying_of ?c_laying_of ?k_laying_of ?a_wish_of ?l_wish_of ?c_wish_of ?k_wish_of ?a_standings ?l_standings ?c_standings ?k_standings ?a_standing ?l_standing ?c_standing ?k_standing ?a_is_met ?l_is_met ?c_is_met ?k_is_met ?a_lacks_of ?l_lacks_of ?c_lacks_of ?k_lacks_of ?a_steps_in ?l_steps_in ?c_steps_in ?k_steps_in ?a_steps_out ?l_steps_out ?c_steps_out ?k_steps_out ?a_meeting ?l_meeting ?c_meeting ?k_meeting ?a_law_is_led ?l_law_is_led ?c_law_is_led ?k_law_is_led ?a_law_more ?l_law_more ?c_law_more ?k_law_more ?a_law_right ?l_law_right ?c_law_right ?k_law_right ?a_law_toll ?l_law_toll ?c_law_toll ?k_law_toll ?a_law_roads ?l_law_roads ?c_law_roads ?k_law_roads ?a_law_web ?l_law_web ?c_law_web ?k_law_web ?a_law_wish ?l_law_wish ?c_law_wish ?k_law_wish ?a_law ?l_law ?c_law ?k_law ?pg_Web ?hd_Web ?po_Web ?sa_Web ?mk_Web ?kc_Web ?nm_Web ?nr_Web ?z_range ?z_len ?z_all ?z_int ?z_tuple ?z_list ?z_reversed ?z_sorted ?z_str ?v_MOST_PLACES ?v_LEAST_TOLL ?v_MOST_TOLL
   (case ac_BadWeb=>k_is)
   (case ac_NoPlace=>k_is)
   (case ac_NoRoad=>k_is)
   (case ac_BadLaying=>k_is)
   (case ac_BadWish=>k_is)
   (case ac_Web=>k_is)
   (case xl_NoPlace=>k_is)
   (case xe_NoPlace=>rfl)
   (case xf_NoPlace=>kernel_rfl)
   (case xj_NoPlace=>k_is)
   (case xp_NoPlace=>kernel_rfl)
   (case xl_NoRoad=>k_is)
   (case xe_NoRoad=>rfl)
   (case xf_NoRoad=>kernel_rfl)
   (case xj_NoRoad=>k_is)
   (case xp_NoRoad=>kernel_rfl)
   (case xl_BadLaying=>k_is)
   (case xe_BadLaying=>rfl)
   (case xf_BadLaying=>kernel_rfl)
   (case xj_BadLaying=>k_is)
   (case xp_BadLaying=>kernel_rfl)
   (case xl_BadWish=>k_is)
   (case xe_BadWish=>rfl)
   (case xf_BadWish=>kernel_rfl)
   (case xj_BadWish=>k_is)
   (case xp_BadWish=>kernel_rfl)
   (case a_check_counts=>k_is)
   (case l_check_counts=>k_is)
   (case c_check_counts=>k_is)
   (case k_check_counts=>k_is)
   (case a_is_place=>k_is)
   (case l_is_place=>k_is)
   (case c_is_place=>k_is)
   (case k_is_place=>k_is)
   (case a_check_ends=>k_is)
   (case l_check_ends=>k_is)
   (case c_check_ends=>k_is)
   (case k_check_ends=>k_is)
   (case a_other_ends=>k_is)
   (case l_other_ends=>k_is)
   (case c_other_ends=>k_is)
   (case k_other_ends=>k_is)
   (case a_check_joined=>k_is)
   (case l_check_joined=>k_is)
   (case c_check_joined=>k_is)
   (case k_check_joined=>k_is)
   (case a_check_tolls=>k_is)
   (case l_check_tolls=>k_is)
   (case c_check_tolls=>k_is)
   (case k_check_tolls=>k_is)
   (case a_Web___init__=>k_is)
   (case i_Web___init__=>k_is)
   (case l_Web___init__=>k_is)
   (case c_Web___init__=>k_is)
   (case k_Web___init__=>k_is)
   (case a_law_tolls=>k_is)
   (case l_law_tolls=>k_is)
   (case c_law_tolls=>k_is)
   (case k_law_tolls=>k_is)
   (case a_law_drawn=>k_is)
   (case l_law_drawn=>k_is)
   (case c_law_drawn=>k_is)
   (case k_law_drawn=>k_is)
   (case a_law_bound=>k_is)
   (case l_law_bound=>k_is)
   (case c_law_bound=>k_is)
   (case k_law_bound=>k_is)
   (case a_law_down=>k_is)
   (case l_law_down=>k_is)
   (case c_law_down=>k_is)
   (case k_law_down=>k_is)
   (case a_law_standings=>k_is)
   (case l_law_standings=>k_is)
   (case c_law_standings=>k_is)
   (case k_law_standings=>k_is)
   (case a_law_edge=>k_is)
   (case l_law_edge=>k_is)
   (case c_law_edge=>k_is)
   (case k_law_edge=>k_is)
   (case a_law_laying=>k_is)
   (case l_law_laying=>k_is)
   (case c_law_laying=>k_is)
   (case k_law_laying=>k_is)
   (case a_law_covers=>k_is)
   (case l_law_covers=>k_is)
   (case c_law_covers=>k_is)
   (case k_law_covers=>k_is)
   (case a_law_done=>k_is)
   (case l_law_done=>k_is)
   (case c_law_done=>k_is)
   (case k_law_done=>k_is)
   (case a_check_place=>k_is)
   (case l_check_place=>k_is)
   (case c_check_place=>k_is)
   (case k_check_place=>k_is)
   (case a_toll=>k_is)
   (case l_toll=>k_is)
   (case c_toll=>k_is)
   (case k_toll=>k_is)
   (case a_handed_on=>k_is)
   (case l_handed_on=>k_is)
   (case c_handed_on=>k_is)
   (case k_handed_on=>k_is)
   (case a_neighbours=>k_is)
   (case l_neighbours=>k_is)
   (case c_neighbours=>k_is)
   (case k_neighbours=>k_is)
   (case a_kids=>k_is)
   (case l_kids=>k_is)
   (case c_kids=>k_is)
   (case k_kids=>k_is)
   (case a_ahead=>k_is)
   (case l_ahead=>k_is)
   (case c_ahead=>k_is)
   (case k_ahead=>k_is)
   (case a_down=>k_is)
   (case l_down=>k_is)
   (case c_down=>k_is)
   (case k_down=>k_is)
   (case a_inward=>k_is)
   (case l_inward=>k_is)
   (case c_inward=>k_is)
   (case k_inward=>k_is)
   (case a_is_filled=>k_is)
   (case l_is_filled=>k_is)
   (case c_is_filled=>k_is)
   (case k_is_filled=>k_is)
   (case a_laying_of=>k_is)
   (case l_laying_of=>k_is)
   (case c_laying_of=>k_is)
   (case k_laying_of=>k_is)
   (case a_wish_of=>k_is)
   (case l_wish_of=>k_is)
   (case c_wish_of=>k_is)
   (case k_wish_of=>k_is)
   (case a_standings=>k_is)
   (case l_standings=>k_is)
   (case c_standings=>k_is)
   (case k_standings=>k_is)
   (case a_standing=>k_is)
   (case l_standing=>k_is)
   (case c_standing=>k_is)
   (case k_standing=>k_is)
   (case a_is_met=>k_is)
   (case l_is_met=>k_is)
   (case c_is_met=>k_is)
   (case k_is_met=>k_is)
   (case a_lacks_of=>k_is)
   (case l_lacks_of=>k_is)
   (case c_lacks_of=>k_is)
   (case k_lacks_of=>k_is)
   (case a_steps_in=>k_is)
   (case l_steps_in=>k_is)
   (case c_steps_in=>k_is)
   (case k_steps_in=>k_is)
   (case a_steps_out=>k_is)
   (case l_steps_out=>k_is)
   (case c_steps_out=>k_is)
   (case k_steps_out=>k_is)
   (case a_meeting=>k_is)
   (case l_meeting=>k_is)
   (case c_meeting=>k_is)
   (case k_meeting=>k_is)
   (case a_law_is_led=>k_is)
   (case l_law_is_led=>k_is)
   (case c_law_is_led=>k_is)
   (case k_law_is_led=>k_is)
   (case a_law_more=>k_is)
   (case l_law_more=>k_is)
   (case c_law_more=>k_is)
   (case k_law_more=>k_is)
   (case a_law_right=>k_is)
   (case l_law_right=>k_is)
   (case c_law_right=>k_is)
   (case k_law_right=>k_is)
   (case a_law_toll=>k_is)
   (case l_law_toll=>k_is)
   (case c_law_toll=>k_is)
   (case k_law_toll=>k_is)
   (case a_law_roads=>k_is)
   (case l_law_roads=>k_is)
   (case c_law_roads=>k_is)
   (case k_law_roads=>k_is)
   (case a_law_web=>k_is)
   (case l_law_web=>k_is)
   (case c_law_web=>k_is)
   (case k_law_web=>k_is)
   (case a_law_wish=>k_is)
   (case l_law_wish=>k_is)
   (case c_law_wish=>k_is)
   (case k_law_wish=>k_is)
   (case a_law=>k_is)
   (case l_law=>k_is)
   (case c_law=>k_is)
   (case k_law=>k_is)
   (case pg_Web=>k_is)
   (case hd_Web=>k_is)
   (case po_Web=>k_is)
   (case sa_Web=>k_is)
   (case mk_Web=>k_is)
   (case kc_Web=>k_is)
   (case nm_Web=>k_is)
   (case nr_Web=>k_is)
   (case z_range=>k_is)
   (case z_len=>k_is)
   (case z_all=>k_is)
   (case z_int=>k_is)
   (case z_tuple=>k_is)
   (case z_list=>k_is)
   (case z_reversed=>k_is)
   (case z_sorted=>k_is)
   (case z_str=>k_is)
   (case v_MOST_PLACES=>k_is)
   (case v_LEAST_TOLL=>k_is)
   (case v_MOST_TOLL=>k_is)
#print axioms PySem.Challenge.cw_pebbletoll_k26_whole_just_so_many_holds
